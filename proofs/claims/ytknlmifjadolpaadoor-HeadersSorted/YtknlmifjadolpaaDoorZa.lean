/-
  The walks of ostiarybook.Same over headers, of headers' Forbidden, and of ostiarylaw5.long.
-/
import Derived.Test.YtknlmifjadolpaaDoorXx
set_option linter.unusedSimpArgs false
set_option linter.unusedVariables false
namespace Go.Proofs.YtknlmifjadolpaaDoor
open Go.RowKit

theorem hd_ext {a b : Hd} (h1 : a.name = b.name) (h2 : a.value = b.value) : a = b := by cases a; cases b; simp at h1 h2; simp [h1, h2]

set_option maxHeartbeats 2000000 in
theorem sameH_any (v1 v2 : Value) (L1 L2 : List Hd) (w : World) (h1 : HdAt w v1 L1) (h2 : HdAt w v2 L2) (hl1 : L1.length ≤ 1000000) (hl2 : L2.length ≤ 1000000) :
    Calls Tryd.prog 18 #[v1, v2] w fun e w' => e = .returned (.bool (decide (L1 = L2))) ∧ Below w.heap.size w w' := by
  obtain ⟨a1, c1, rfl, hc1, hm1, hv1⟩ := h1.view
  obtain ⟨a2, c2, rfl, hc2, hm2, hv2⟩ := h2.view
  have V1 := hid hv1
  have V2 := hid hv2
  clear h1 h2 hv1 hv2
  by_cases hl : L1.length = L2.length
  · have hl' : ((L1.length : Int) == (L2.length : Int)) = true := by rw [beq_iff_eq]; omega
    go_enter Tryd.func18, Tryd.ntmps18
    go_wp2
    go_loopw [5] (fun i wr => ∃ k : Nat, k ≤ L1.length ∧ i = .int .i64 k ∧ (∀ j (h1 : j < L1.length) (h2 : j < L2.length), j < k → L1[j] = L2[j]) ∧ Below w.heap.size w wr) (fun i _ => L1.length - (intOf i).toNat)
    case atStart => exact ⟨0, Nat.zero_le _, rfl, fun j _ _ h => absurd h (by omega), Below.refl _ _⟩
    case round =>
      obtain ⟨k, hk, rfl, hall, hb⟩ := hrel
      have HA := hid hall
      clear hall
      by_cases hlt : k < L1.length
      · have hlt' : (k : Int) < (L1.length : Int) := by omega
        have hlt2' : (k : Int) < (L2.length : Int) := by omega
        obtain ⟨b1, o1, rfl, e1, e1'⟩ := V1.out k hlt
        obtain ⟨b2, o2, rfl, e2, e2'⟩ := V2.out k (by omega)
        have f1 : wr.cell? ⟨b1, o1 + k * 2, none⟩ = some (.string ⟨L1[k].name.toArray⟩) := (hb.cell (World.block_lt_of_cell? w _ e1)).trans e1
        have f1' : wr.cell? ⟨b1, o1 + k * 2 + 1, none⟩ = some (.string ⟨L1[k].value.toArray⟩) := (hb.cell (World.block_lt_of_cell? w _ e1')).trans e1'
        have f2 : wr.cell? ⟨b2, o2 + k * 2, none⟩ = some (.string ⟨(L2[k]'(by omega)).name.toArray⟩) := (hb.cell (World.block_lt_of_cell? w _ e2)).trans e2
        have f2' : wr.cell? ⟨b2, o2 + k * 2 + 1, none⟩ = some (.string ⟨(L2[k]'(by omega)).value.toArray⟩) := (hb.cell (World.block_lt_of_cell? w _ e2')).trans e2'
        clear e1 e2 e1' e2'
        obtain ⟨x, hx⟩ : ∃ x, x = L1[k].name := ⟨_, rfl⟩
        obtain ⟨x', hx'⟩ : ∃ x, x = L1[k].value := ⟨_, rfl⟩
        obtain ⟨y, hy⟩ : ∃ y, y = (L2[k]'(by omega)).name := ⟨_, rfl⟩
        obtain ⟨y', hy'⟩ : ∃ y, y = (L2[k]'(by omega)).value := ⟨_, rfl⟩
        rw [← hx] at f1
        rw [← hx'] at f1'
        rw [← hy] at f2
        rw [← hy'] at f2'
        have HX := hid hx
        have HY := hid hy
        have HX' := hid hx'
        have HY' := hid hy'
        clear hx hy hx' hy'
        by_cases hxy : x = y ∧ x' = y'
        · obtain ⟨rfl, rfl⟩ := hxy
          go_wp2
          go_quiet (fail)
          go_wp2
          go_roundw
          case rel =>
            refine ⟨k + 1, by omega, by go_num, fun j h1 h2 hj => ?_, below_drewN hb _⟩
            by_cases he : j = k
            · subst he; exact hd_ext (by rw [← HX.out, ← HY.out]) (by rw [← HX'.out, ← HY'.out])
            · exact HA.out j h1 h2 (by omega)
          case measure => simp [intOf]; omega
        · have HN := hid (show ¬ L1 = L2 from fun e => hxy ⟨by rw [HX.out, HY.out]; subst e; rfl, by rw [HX'.out, HY'.out]; subst e; rfl⟩)
          by_cases hx1 : x = y
          · subst hx1
            have hne : (x' == y') = false := by
              rw [beq_eq_false_iff_ne]
              exact fun e => hxy ⟨rfl, e⟩
            clear hxy
            go_wp2
            go_quiet (fail)
            go_wp2
            go_ret
            exact ⟨ret_bool (by simp [HN.out]), below_drewN hb _⟩
          · have hne : (x == y) = false := by
              rw [beq_eq_false_iff_ne]
              exact hx1
            clear hxy hx1
            go_wp2
            go_quiet (fail)
            go_wp2
            go_ret
            exact ⟨ret_bool (by simp [HN.out]), below_drewN hb _⟩
      · have HE := hid (show L1 = L2 from list_eq_of hl fun j h1 h2 => HA.out j h1 h2 (by omega))
        go_wp2
        go_ret
        exact ⟨ret_bool (by simp [HE.out]), hb⟩
  · have hl' : ((L1.length : Int) == (L2.length : Int)) = false := by rw [beq_eq_false_iff_ne]; omega
    have HN := hid (show ¬ L1 = L2 from fun e => hl (by rw [e]))
    go_enter Tryd.func18, Tryd.ntmps18
    go_wp2
    go_ret
    exact ⟨ret_bool (by simp [HN.out]), Below.refl _ _⟩

def forbL : List (List UInt8) := [[104, 111, 115, 116], [99, 111, 111, 107, 105, 101], [111, 114, 105, 103, 105, 110], [114, 101, 102, 101, 114, 101, 114], [99, 111, 110, 116, 101, 110, 116, 45, 108, 101, 110, 103, 116, 104], [99, 111, 110, 110, 101, 99, 116, 105, 111, 110], [100, 97, 116, 101], [118, 105, 97], [116, 101], [117, 112, 103, 114, 97, 100, 101], [101, 120, 112, 101, 99, 116], [100, 110, 116], [97, 99, 99, 101, 112, 116, 45, 99, 104, 97, 114, 115, 101, 116], [97, 99, 99, 101, 112, 116, 45, 101, 110, 99, 111, 100, 105, 110, 103], [97, 99, 99, 101, 115, 115, 45, 99, 111, 110, 116, 114, 111, 108, 45, 114, 101, 113, 117, 101, 115, 116, 45, 104, 101, 97, 100, 101, 114, 115], [97, 99, 99, 101, 115, 115, 45, 99, 111, 110, 116, 114, 111, 108, 45, 114, 101, 113, 117, 101, 115, 116, 45, 109, 101, 116, 104, 111, 100], [107, 101, 101, 112, 45, 97, 108, 105, 118, 101], [116, 114, 97, 105, 108, 101, 114], [116, 114, 97, 110, 115, 102, 101, 114, 45, 101, 110, 99, 111, 100, 105, 110, 103]]
/-- What a page may not set. -/
def forbV (n : List UInt8) : Bool := forbL.contains (low n) || (Lib.hasPrefix (low n) [112, 114, 111, 120, 121, 45] || Lib.hasPrefix (low n) [115, 101, 99, 45])

theorem low_size (n : ByteArray) : (low n.data.toList).length = n.size := by rw [low_len]; simp

set_option maxHeartbeats 4000000 in
set_option maxRecDepth 100000 in
theorem forbidden_any (n : ByteArray) (w : World) (hn : n.size ≤ 140737488351232) :
    Calls Tryd.prog 20 #[.string n] w fun e w' => e = .returned (.bool (forbV n.data.toList)) ∧ Below w.heap.size w w' := by
  obtain ⟨C, hC⟩ : ∃ x : ByteArray, x = ⟨(low n.data.toList).toArray⟩ := ⟨_, rfl⟩
  have HV := hid (show forbV n.data.toList = (forbL.contains C.toList || (Lib.hasPrefix C.data.toList [112, 114, 111, 120, 121, 45] || Lib.hasPrefix C.data.toList [115, 101, 99, 45])) by rw [Lib.toList_data, hC]; rfl)
  have HC := hid hC
  clear hC
  have H1 : Hid (∀ w : World, Calls Tryd.prog 56 #[.string C, .string ⟨#[112, 114, 111, 120, 121, 45]⟩] w fun e w' => e = .returned (.bool (Lib.hasPrefix C.data.toList [112, 114, 111, 120, 121, 45])) ∧ w' = w) := fun w => Tryd.strings_HasPrefix C _ w
  have H2 : Hid (∀ w : World, Calls Tryd.prog 56 #[.string C, .string ⟨#[115, 101, 99, 45]⟩] w fun e w' => e = .returned (.bool (Lib.hasPrefix C.data.toList [115, 101, 99, 45])) ∧ w' = w) := fun w => Tryd.strings_HasPrefix C _ w
  obtain ⟨p1, hp1⟩ : ∃ x, Lib.hasPrefix C.data.toList [112, 114, 111, 120, 121, 45] = x := ⟨_, rfl⟩
  obtain ⟨p2, hp2⟩ : ∃ x, Lib.hasPrefix C.data.toList [115, 101, 99, 45] = x := ⟨_, rfl⟩
  rw [hp1] at H1 HV
  rw [hp2] at H2 HV
  clear hp1 hp2
  by_cases hin : forbL.contains C.toList = true
  · have HV2 := hid (show forbV n.data.toList = true by rw [HV.out, hin]; rfl)
    simp [forbL] at hin
    rcases hin with h | h | h | h | h | h | h | h | h | h | h | h | h | h | h | h | h | h | h
    all_goals
      have hCe : C = ⟨C.data.toList.toArray⟩ := xself C
      rw [← Lib.toList_data, h] at hCe
      have HCe := hid hCe
      clear h hCe
      go_enter Tryd.func20, Tryd.ntmps20
      go_wp2_with fail
      refine (lower_any n _ hn).mono ?_
      rintro e w1 ⟨rfl, hb1⟩
      rw [← HC.out, HCe.out]
      go_wp2
      go_ret
      exact ⟨ret_bool HV2.out.symm, hb1⟩
  · have hno : forbL.contains C.toList = false := by simpa using hin
    have HV2 := hid (show forbV n.data.toList = (p1 || p2) by rw [HV.out, hno]; rfl)
    have hne : ∀ l ∈ forbL, (C.toList == l) = false := fun l hl => by
      rw [beq_eq_false_iff_ne]
      intro e
      rw [e] at hno
      simp [hl] at hno
    clear hin hno
    have h1 := hne _ (List.getElem_mem (show 0 < forbL.length by decide))
    have h2 := hne _ (List.getElem_mem (show 1 < forbL.length by decide))
    have h3 := hne _ (List.getElem_mem (show 2 < forbL.length by decide))
    have h4 := hne _ (List.getElem_mem (show 3 < forbL.length by decide))
    have h5 := hne _ (List.getElem_mem (show 4 < forbL.length by decide))
    have h6 := hne _ (List.getElem_mem (show 5 < forbL.length by decide))
    have h7 := hne _ (List.getElem_mem (show 6 < forbL.length by decide))
    have h8 := hne _ (List.getElem_mem (show 7 < forbL.length by decide))
    have h9 := hne _ (List.getElem_mem (show 8 < forbL.length by decide))
    have h10 := hne _ (List.getElem_mem (show 9 < forbL.length by decide))
    have h11 := hne _ (List.getElem_mem (show 10 < forbL.length by decide))
    have h12 := hne _ (List.getElem_mem (show 11 < forbL.length by decide))
    have h13 := hne _ (List.getElem_mem (show 12 < forbL.length by decide))
    have h14 := hne _ (List.getElem_mem (show 13 < forbL.length by decide))
    have h15 := hne _ (List.getElem_mem (show 14 < forbL.length by decide))
    have h16 := hne _ (List.getElem_mem (show 15 < forbL.length by decide))
    have h17 := hne _ (List.getElem_mem (show 16 < forbL.length by decide))
    have h18 := hne _ (List.getElem_mem (show 17 < forbL.length by decide))
    have h19 := hne _ (List.getElem_mem (show 18 < forbL.length by decide))
    simp only [forbL, List.getElem_cons_zero, List.getElem_cons_succ] at h1 h2 h3 h4 h5 h6 h7 h8 h9 h10 h11 h12 h13 h14 h15 h16 h17 h18 h19
    clear hne HV
    cases p1 <;> cases p2
    all_goals
      go_enter Tryd.func20, Tryd.ntmps20
      go_wp2_with fail
      refine (lower_any n _ hn).mono ?_
      rintro e w1 ⟨rfl, hb1⟩
      rw [← HC.out]
      go_wp2_with (first | (go_at_call 56; refine (H1.out _).mono ?_; rintro e w' ⟨rfl, rfl⟩) | (go_at_call 56; refine (H2.out _).mono ?_; rintro e w' ⟨rfl, rfl⟩))
      go_ret
      exact ⟨ret_bool (by rw [HV2.out]; rfl), hb1⟩

/-- Block g holds the bytes l, and nothing else. -/
def RowZ (w : World) (g : Nat) (l : List UInt8) : Prop := w.heap[g]? = some (.cells (l.map fun c => Value.int .u8 (c.toNat : Int)).toArray 5 (0, 0))

theorem RowZ.cell {w : World} {g : Nat} {l : List UInt8} (h : RowZ w g l) (j : Nat) (hj : j < l.length) : w.cell? ⟨g, j, none⟩ = some (.int .u8 (l[j].toNat : Int)) := by
  rw [Lib.cell_of_heap h]; simp [hj]

theorem RowZ.set {w : World} {g : Nat} {l : List UInt8} (h : RowZ w g l) (j : Nat) (c : UInt8) : RowZ (w.setCell ⟨g, j, none⟩ (.int .u8 (c.toNat : Int))) g (l.set j c) := by
  have := Lib.heap_setCell_same h (i := j) (.int .u8 (c.toNat : Int))
  unfold RowZ
  rw [this]
  simp [List.map_set]

theorem RowZ.string {w : World} {g cap : Nat} {l : List UInt8} (h : RowZ w g l) : (convert 73 9 (.slice (some ⟨g, 0, none⟩) l.length cap)).run Tryd.prog w = .ok (.string ⟨l.toArray⟩) w := by
  refine run_convert_bytes_back w 73 9 5 ⟨g, 0, none⟩ cap l Tryd.underlying73 Tryd.underlying5 Tryd.underlying9 fun j hj => ?_
  have := h.cell j hj
  rw [Addr.add_lit]
  simpa using this

def lonL (n k : Nat) : List UInt8 := List.replicate k 97 ++ List.replicate (n - k) 0

theorem lonL_len (n k : Nat) (h : k ≤ n) : (lonL n k).length = n := by simp [lonL]; omega

theorem lonL_set (n k : Nat) (h : k < n) : (lonL n k).set k 97 = lonL n (k + 1) := by
  unfold lonL
  rw [List.set_append, if_neg (by simp), List.length_replicate, Nat.sub_self, show n - k = (n - (k + 1)) + 1 by omega, List.replicate_succ, List.set_cons_zero]
  rw [List.replicate_succ']
  simp

theorem infoU8 : (Tryd.prog.info? 5).map (fun i => (i.zero, i.size, i.bytes)) = some (some (.int .u8 0), 1, 1) := by kernel_rfl

/-- So many letters. -/
def lonV (n : Nat) : List UInt8 := List.replicate n 97

set_option maxHeartbeats 2000000 in
theorem long_any (n : Nat) (w : World) (hn : n ≤ 1000000) :
    Calls Tryd.prog 12 #[.int .i64 n] w fun e w' => e = .returned (.string ⟨(lonV n).toArray⟩) ∧ Below w.heap.size w w' := by
  obtain ⟨i0, hi, hz0, hz1, hz2⟩ := info3 infoU8
  have hmk := run_make (P := Tryd.prog) w 73 5 i0 _ Tryd.underlying73 hi hz0 .i64 .i64 (n : Int) (n : Int) (by omega) (by omega) (by rw [hz2]; omega) (by omega)
  have h0 : RowZ (w.alloc (.cells (madeCells (Value.int .u8 0).cells ((n : Int).toNat * i0.size)) 5)) w.heap.size (lonL n 0) := by
    unfold RowZ
    rw [heap_alloc_new, hz1]
    have e : madeCells (Value.int .u8 0).cells ((n : Int).toNat * 1) = ((lonL n 0).map fun c => Value.int .u8 (c.toNat : Int)).toArray := by
      have h1 : (madeCells (Value.int .u8 0).cells ((n : Int).toNat * 1)).toList = List.replicate n (.int .u8 0) := by
        have := toList_madeCells_one (.int .u8 0) n
        simpa [Value.cells] using this
      apply Array.toList_inj.1
      rw [h1]
      simp [lonL]
    rw [e]
  have hb0 : Below w.heap.size w (w.alloc (.cells (madeCells (Value.int .u8 0).cells ((n : Int).toNat * i0.size)) 5)) := belowA (Below.refl _ _) _
  generalize (w.alloc (.cells (madeCells (Value.int .u8 0).cells ((n : Int).toNat * i0.size)) 5)) = w0 at hmk h0 hb0
  simp only [Int.toNat_natCast] at hmk
  have H0 := hid h0
  clear h0
  go_enter Tryd.func12, Tryd.ntmps12
  go_wp2
  clear hmk
  go_loopw [4] (fun i wr => ∃ k : Nat, k ≤ n ∧ i = .int .i64 k ∧ RowZ wr w.heap.size (lonL n k) ∧ Below w.heap.size w wr) (fun i _ => n - (intOf i).toNat)
  case atStart => exact ⟨0, Nat.zero_le _, rfl, H0.out, hb0⟩
  case round =>
    obtain ⟨k, hk, rfl, hr, hbw⟩ := hrel
    have HR := hid hr
    by_cases hlt : k < n
    · have hlt' : (k : Int) < (n : Int) := by omega
      have hc := hr.cell k (by rw [lonL_len n k hk]; exact hlt)
      have hf : wr.frozen? ⟨w.heap.size, k, none⟩ = false := Lib.frozen_of_heap hr k
      clear hr
      generalize ((lonL n k)[k]'(by rw [lonL_len n k hk]; exact hlt)) = q at hc
      go_wp2
      go_roundw
      case rel =>
        refine ⟨k + 1, by omega, by go_num, ?_, hbw.setCell (p := ⟨w.heap.size, k, none⟩) (Nat.le_refl _) _⟩
        rw [← lonL_set n k hlt]
        exact HR.out.set k 97
      case measure => simp [intOf]; omega
    · have hke : k = n := by omega
      subst hke
      have hcv := hr.string (cap := k)
      rw [lonL_len k k (Nat.le_refl _), show lonL k k = lonV k by simp [lonL, lonV]] at hcv
      clear hr
      go_wp2
      go_ret
      exact ⟨rfl, hbw⟩

end Go.Proofs.YtknlmifjadolpaaDoor
