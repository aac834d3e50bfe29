/-
  Walks and plain facts that this claim leans on, put together out of 14 texts: Vc, Vd, Ve, Wb, Wa, We, Wf, Vf, Vg, Vh, Vi, Vk, Vl, Vm.
-/
import Derived.Test.YtjmkccnjjofmeaaGreatDoorProg
import Derived.Test.YtjmkccnjjofmeaaGreatDoorQa1
import Derived.Test.YtjmkccnjjofmeaaGreatDoorQa2
import Derived.Laws.BitsAllLaws
import Derived.Lib.AppendIntMem
import Derived.Lib.SmallJoins
import Derived.WalkSmall
import Derived.Lib.IndexMore
import Derived.Lib.Join
import Derived.Shelf.Strings.Builder1
import Derived.Shelf.Strings.Builder2
import Derived.Shelf.Strings.OnBuilder
import Derived.Shelf.Strings.Trim
import Derived.Shelf.Small.Utf8
import Derived.Shelf.Small.Strs
import Derived.Shelf.Small.Wraps
import Derived.Shelf.Strings.BuilderF
import Derived.Shelf.Strings.BuilderK
import Derived.Shelf.Strings.Builder2Cap
import Derived.Shelf.Strconv.Itoa0
import Derived.Shelf.Strconv.Itoa1
import Derived.Shelf.LaysM
import Derived.Shelf.Strconv.Itoa2
import Derived.Shelf.Strconv.Itoa3
import Derived.Shelf.Strings.Search1
import Derived.Shelf.Strings.Search2
import Derived.Shelf.Strings.Search3
import Derived.Shelf.Strings.Cut
import Derived.Shelf.Strings.Count
import Derived.Shelf.Strings.Shaped
import Derived.Shelf.Strings.Prefix
import Derived.Shelf.Strings.Split
import Derived.Shelf.Strings.Replace
import Derived.Shelf.Strings.Runes
import Derived.Shelf.Strings.IndexAny
import Derived.Shelf.Strings.AsciiSet
import Derived.Shelf.Strings.IndexAnyAll
import Derived.Shelf.Unicode.DecodeSlow
import Derived.Lib.Strings
import Derived.Lib.UnsafeStr
import Derived.Laws.IdiomStrings
import Derived.Laws.AppendOwn
import Derived.Lib.Bytealg
import Derived.WalkKit
import Derived.WalkSpells
import Derived.WalkLawsBesides
import Derived.Lib.BufferMore
import Derived.Lib.LastIndexByte
import Derived.WalkMore
import Derived.Deep.LoopGhost
import Derived.Lib.FrozenHead2
import Derived.Lib.OthersKept
import Derived.Lib.Builder
import Derived.Deep.RegionWith
import Derived.OwnWalk
import Derived.Laws.CopyOwn
import Derived.Laws.ResultCell
import Derived.Deep.MidRow
set_option linter.unusedSimpArgs false
set_option linter.unusedVariables false

namespace Go.Proofs.YtjmkccnjjofmeaaGreatDoor
open Go.RowKit

theorem size_le {l : List UInt8} {s : ByteArray} {n : Nat} (h : l.length ≤ s.data.toList.length) (hs : s.size ≤ n) : (⟨l.toArray⟩ : ByteArray).size ≤ n := by
  have e : (⟨l.toArray⟩ : ByteArray).size = l.length := by show l.toArray.size = _; simp
  simp at h
  omega

theorem empty_yes (s : ByteArray) (h : s.data.toList = []) : s.toList.isEmpty = true := by rw [Lib.toList_data, h]; rfl

theorem empty_no (s : ByteArray) (h : s.data.toList ≠ []) : s.toList.isEmpty = false := by
  rw [Lib.toList_data]; cases hl : s.data.toList with
  | nil => exact absurd hl h
  | cons a l => rfl

end Go.Proofs.YtjmkccnjjofmeaaGreatDoor

namespace Go.Proofs.YtjmkccnjjofmeaaGreatDoor
open Go.RowKit

theorem getD_some {o : Option Nat} {n : Nat} (h : o = some n) : o.getD 0 = n := by rw [h]; rfl

theorem getD_none {o : Option Nat} (h : o = none) : o.getD 0 = 0 := by rw [h]; rfl

theorem orN (k h n : Nat) (hn : n < 2 ^ k) (hh : h * 2 ^ k + n < 18446744073709551616) : bits .or .u64 ((h : Int) * 2 ^ k) (n : Int) = ((h * 2 ^ k + n : Nat) : Int) := by
  have e : (h : Int) * 2 ^ k = ((h * 2 ^ k : Nat) : Int) := by simp
  rw [e, u64_or_nat _ _ (by omega) (by omega)]
  congr 1
  rw [← Nat.shiftLeft_eq, Nat.shiftLeft_add_eq_or_of_lt hn]

end Go.Proofs.YtjmkccnjjofmeaaGreatDoor

namespace Go.Proofs.YtjmkccnjjofmeaaGreatDoor
open Go.RowKit

theorem and255 (n : Nat) (h : n < 4294967296) : bits .and .u32 (n : Int) 255 = ((n % 256 : Nat) : Int) := by
  have := u32_and_nat n 255 h (by omega)
  rw [nat_mask8] at this
  simpa using this

/-- What is written when g bytes are still to come. -/
def txt4 (n : Nat) : Nat → List UInt8
  | 0 => text4 n
  | 1 => dec8 (n / 16777216 % 256) ++ ([46] ++ dec8 (n / 65536 % 256)) ++ ([46] ++ dec8 (n / 256 % 256))
  | 2 => dec8 (n / 16777216 % 256) ++ ([46] ++ dec8 (n / 65536 % 256))
  | _ => dec8 (n / 16777216 % 256)

theorem dec8_le (n : Nat) : (dec8 n).length ≤ 3 := by
  unfold dec8; split
  · simp
  · split <;> simp

theorem text4_le (n : Nat) : (text4 n).length ≤ 15 := by
  unfold text4
  have h1 := dec8_le (n / 16777216 % 256)
  have h2 := dec8_le (n / 65536 % 256)
  have h3 := dec8_le (n / 256 % 256)
  have h4 := dec8_le (n % 256)
  simp; omega

theorem txt4_le (n g : Nat) : (txt4 n g).length ≤ 15 := by
  have h1 := dec8_le (n / 16777216 % 256)
  have h2 := dec8_le (n / 65536 % 256)
  have h3 := dec8_le (n / 256 % 256)
  unfold txt4
  split
  · exact text4_le n
  · simp; omega
  · simp; omega
  · omega

theorem ba_app (a b : List UInt8) : (⟨a.toArray⟩ : ByteArray) ++ ⟨b.toArray⟩ = ⟨(a ++ b).toArray⟩ := by
  refine ba_ext ?_
  simp

end Go.Proofs.YtjmkccnjjofmeaaGreatDoor

namespace Go.Proofs.YtjmkccnjjofmeaaGreatDoor
open Go.RowKit

theorem sizeBuilder : (Tryz.prog.info? 80).map (·.size) = some 2 := by kernel_rfl

theorem liesBuilder : liesAt Tryz.prog Tryz.prog.depth 80 (2 / Tryz.prog.cellsOf 80) 0 80 1 = true := by kernel_rfl

theorem infoByte : (Tryz.prog.info? 5).map (fun i => (i.zero, i.size, i.bytes)) = some (some (.int .u8 0), 1, 1) := by kernel_rfl

set_option maxHeartbeats 1000000 in
set_option maxRecDepth 100000 in
theorem copyCheck_fresh (b : Nat) (w : World) (h0 : w.cell? ⟨b, 0, none⟩ = some (.pointer none)) (hsh : w.shape? b = some (80, 2)) (hfz : w.frozen? ⟨b, 0, none⟩ = false) :
    Calls Tryz.prog 71 #[.pointer (some ⟨b, 0, none⟩)] w fun e w' => e = .returned (.tuple #[]) ∧ w' = w.setCell ⟨b, 0, none⟩ (.pointer (some ⟨b, 0, none⟩)) := by
  obtain ⟨j, hj, hjs⟩ := Option.map_eq_some_iff.1 sizeBuilder
  go_enter Tryz.func71, Tryz.ntmps71
  go_wp2
  rw [Lib.run_to_unsafe w ⟨b, 0, none⟩ Tryz.underlying78 Tryz.underlying126 hj (by rw [hjs]; decide) hsh (Nat.zero_lt_succ 1)]
  simp only [Result.andThen]
  rw [Oper.upon_value]
  go_wp2
  rw [run_callFunc_extern Tryz.func104 (by kernel_rfl) (by kernel_rfl) (by kernel_rfl) (e := Extern.AbiNoEscape.same) (by kernel_rfl)]
  rw [Lib.run_noEscape]
  simp only [Result.andThen]
  rw [Oper.upon_value]
  go_wp2
  rw [Lib.run_from_unsafe w ⟨b, 0, none⟩ Tryz.underlying126 Tryz.underlying78 hj hsh liesBuilder]
  simp only [Result.andThen]
  rw [Oper.upon_value]
  go_wp2
  go_end0
  exact ⟨rfl, rfl⟩

set_option maxHeartbeats 1000000 in
set_option maxRecDepth 100000 in
theorem copyCheck_used (b : Nat) (w : World) (h0 : w.cell? ⟨b, 0, none⟩ = some (.pointer (some ⟨b, 0, none⟩))) :
    Calls Tryz.prog 71 #[.pointer (some ⟨b, 0, none⟩)] w fun e w' => e = .returned (.tuple #[]) ∧ w' = w := by
  obtain ⟨j, hj, hjs⟩ := Option.map_eq_some_iff.1 sizeBuilder
  go_enter Tryz.func71, Tryz.ntmps71
  go_wp2
  rw [Lib.run_neq_ptr_same w _ Tryz.underlying78 hj]
  go_wp2
  go_end0
  exact ⟨rfl, rfl⟩

theorem copyCheck_k (B b : Nat) (bs : List Value) (w : World) (h : Lib.IsBuilderF 80 5 B b bs w) :
    Calls Tryz.prog 71 #[.pointer (some ⟨b, 0, none⟩)] w fun e w' => e = .returned (.tuple #[]) ∧ (Lib.BuilderAtF 80 5 B b (.pointer (some ⟨b, 0, none⟩)) bs w' ∧ Below B w w' ∧ Lib.OthersKept 5 (some b) w w') := by
  rcases h with h | h
  · refine (copyCheck_fresh b w h.cell0 h.shape h.frozen0).mono ?_
    rintro e w' ⟨rfl, rfl⟩
    exact ⟨rfl, h.used _, (Below.refl B w).setCell (p := ⟨b, 0, none⟩) h.1 _, (Lib.OthersKept.refl _ _ w).setCell ⟨b, 0, none⟩ rfl _⟩
  · refine (copyCheck_used b w h.cell0).mono ?_
    rintro e w' ⟨rfl, rfl⟩
    exact ⟨rfl, h, Below.refl B _, Lib.OthersKept.refl _ _ _⟩

set_option maxHeartbeats 2000000 in
set_option maxRecDepth 100000 in
theorem writeByte_k (B b : Nat) (bs : List Value) (c : Int) (w : World) (h : Lib.IsBuilderF 80 5 B b bs w) (hlen : bs.length + 1 ≤ 140737488355328) (hBw : B ≤ w.heap.size) :
    Calls Tryz.prog 75 #[.pointer (some ⟨b, 0, none⟩), .int .u8 c] w fun e w' => e = .returned .nilIface ∧ (Lib.BuilderAtF 80 5 B b (.pointer (some ⟨b, 0, none⟩)) (bs ++ [.int .u8 c]) w' ∧ Below B w w' ∧ Lib.OthersKept 5 (some b) w w') := by
  obtain ⟨i0, hi, hz0, hz1, hz2⟩ := info_parts infoByte
  go_enter Tryz.func75, Tryz.ntmps75
  go_wp2_with (go_at_call 71; refine (copyCheck_k B b bs _ h).mono ?_)
  rintro e w1 ⟨rfl, h1, hb1, hk1⟩
  obtain ⟨hB, v, hbk, hown, hne⟩ := h1
  have c0 : w1.cell? ⟨b, 0, none⟩ = some (.pointer (some ⟨b, 0, none⟩)) := by rw [Lib.cell_of_heap hbk]; rfl
  have c1 : w1.cell? ⟨b, 1, none⟩ = some v := by rw [Lib.cell_of_heap hbk]; rfl
  go_wp2_with (at_builtin; refine wpList_append_ownF _ rfl _ _ 27 rfl B 5 i0 (.int .u8 0) 1 1 Tryz.underlying27 hi hz0 hz1 hz2 rfl (by decide) _ _ _ rfl (hown.alloc _) ⟨w1.heap.size, 0, none⟩ 1 1 [.int .u8 c] rfl rfl ?c1 ?c2 ?c3 ?c4 ?c5 ?_)
  case c1 =>
    intro j u hj
    match j, hj with
    | 0, hj => simp at hj; subst hj; simp [Addr.add]
  case c2 => intro u hu; simp at hu; subst hu; rfl
  case c3 => unfold maxLen; omega
  case c4 => omega
  case c5 => have := hb1.size; simp; omega
  intro v' w2 hown' hgrow _
  have hlt : b < w1.heap.size := by
    rcases Nat.lt_or_ge b w1.heap.size with h' | h'
    · exact h'
    · simp [Array.getElem?_eq_none h'] at hbk
  have hb2 : w2.heap[b]? = some (.cells #[.pointer (some ⟨b, 0, none⟩), v] 80 (0, 0)) := by
    rw [hgrow.block b (by simp; omega) (fun e => hne e.symm), Lib.alloc_old w1 _ b hlt]
    exact hbk
  have d0 : w2.cell? ⟨b, 0, none⟩ = some (.pointer (some ⟨b, 0, none⟩)) := by rw [Lib.cell_of_heap hb2]; rfl
  have d1 : w2.cell? ⟨b, 1, none⟩ = some v := by rw [Lib.cell_of_heap hb2]; rfl
  have f1 : w2.frozen? ⟨b, 1, none⟩ = false := Lib.frozen_of_heap hb2 1
  obtain ⟨g, cap, rfl⟩ : ∃ g cap, v' = .slice (some ⟨g, 0, none⟩) (bs.length + 1) cap := by
    rcases hown'.2 with ⟨_, h0⟩ | ⟨g, cap, cur, fz, hv, _⟩
    · omega
    · exact ⟨g, cap, hv⟩
  go_wp2
  go_ret
  refine ⟨rfl, ?_, ?_, ((hk1.alloc _).grown hgrow (Lib.ownsRowF_kind (hown.alloc _))).setCell ⟨b, 1, none⟩ rfl _⟩
  · exact Lib.BuilderAtF.put (T := 80) (e := 5) hB hb2 (bs' := bs ++ [.int .u8 c]) (by simpa using hown') (by decide)
  · exact ((hb1.alloc (by have := hb1.size; omega) _).grown hgrow (by have := hb1.size; simp; omega) (fun k hk => (hown.lt k hk).1)).setCell (p := ⟨b, 1, none⟩) hB _

end Go.Proofs.YtjmkccnjjofmeaaGreatDoor

namespace Go.Proofs.YtjmkccnjjofmeaaGreatDoor
open Go.RowKit

set_option maxHeartbeats 400000 in
theorem blank_any (c : Int) (w : World) :
    Calls Tryz.prog 90 #[.int .u8 c] w fun e w' => e = .returned (.bool (blankI c)) ∧ w = w' := by
  go_enter Tryz.func90, Tryz.ntmps90
  go_wp2
  all_goals
    go_ret
    exact ⟨ret_bool (by simp [blankI, *]), rfl⟩

set_option maxHeartbeats 400000 in
theorem digit_any (c : Int) (w : World) :
    Calls Tryz.prog 126 #[.int .u8 c] w fun e w' => e = .returned (.bool (digitI c)) ∧ w = w' := by
  go_enter Tryz.func126, Tryz.ntmps126
  go_wp2
  all_goals
    go_ret
    exact ⟨ret_bool (by rw [Bool.eq_iff_iff]; simp [digitI]; omega), rfl⟩

set_option maxHeartbeats 400000 in
theorem letter_any (c : Int) (w : World) :
    Calls Tryz.prog 133 #[.int .u8 c] w fun e w' => e = .returned (.bool (letterI c)) ∧ w = w' := by
  go_enter Tryz.func133, Tryz.ntmps133
  go_wp2
  all_goals
    go_ret
    exact ⟨ret_bool (by rw [Bool.eq_iff_iff]; simp [letterI]; omega), rfl⟩

set_option maxHeartbeats 1000000 in
theorem tokenByte_any (c : Int) (w : World) :
    Calls Tryz.prog 105 #[.int .u8 c] w fun e w' => e = .returned (.bool (tokI c)) ∧ w = w' := by
  go_enter Tryz.func105, Tryz.ntmps105
  go_wp2_with (first | (go_at_call 133; refine (letter_any _ _).mono ?_; rintro e w' ⟨rfl, rfl⟩) | (go_at_call 126; refine (digit_any _ _).mono ?_; rintro e w' ⟨rfl, rfl⟩))
  all_goals
    go_ret
    exact ⟨ret_bool (by simp [tokI, signI, *]), rfl⟩

set_option maxHeartbeats 1000000 in
theorem value64_any (c : Int) (w : World) (h0 : 0 ≤ c) (h1 : c ≤ 255) :
    Calls Tryz.prog 97 #[.int .u8 c] w fun e w' => e = .returned (.tuple #[.int .u32 (val64I c), .bool (is64I c)]) ∧ w = w' := by
  go_enter Tryz.func97, Tryz.ntmps97
  go_wp2
  all_goals
    go_ret2
    refine ⟨ret_ib ?_ ?_, rfl⟩
    · try simp only [beq_iff_eq, beq_eq_false_iff_ne, ne_eq] at *
      simp [val64I]; omega
    · try simp only [beq_iff_eq, beq_eq_false_iff_ne, ne_eq] at *
      rw [Bool.eq_iff_iff]; simp [is64I, letterI, digitI]; omega

set_option maxHeartbeats 1000000 in
theorem value16_any (c : Int) (w : World) (h0 : 0 ≤ c) (h1 : c ≤ 255) :
    Calls Tryz.prog 119 #[.int .u8 c] w fun e w' => e = .returned (.tuple #[.int .u8 (val16I c), .bool (is16I c)]) ∧ w = w' := by
  go_enter Tryz.func119, Tryz.ntmps119
  go_wp2
  all_goals
    go_ret2
    exact ⟨ret_ib (by simp [val16I]; omega) (by rw [Bool.eq_iff_iff]; simp [is16I, digitI]; omega), rfl⟩

end Go.Proofs.YtjmkccnjjofmeaaGreatDoor

namespace Go.Proofs.YtjmkccnjjofmeaaGreatDoor
open Go.RowKit

theorem indexA (c : Int) (w : World) : Calls Tryz.prog 110 #[.string ⟨#[47, 58, 59, 61, 64, 91, 92, 93, 124]⟩, .int .u8 c] w fun e w' => e = .returned (.int .i64 (idxA c)) ∧ w = w' := by
  refine (Tryz.strings_IndexByte _ _ _).mono ?_
  rintro e w' ⟨rfl, rfl⟩
  exact ⟨rfl, rfl⟩

theorem indexB (c : Int) (w : World) : Calls Tryz.prog 110 #[.string ⟨#[63, 94, 96, 123, 125]⟩, .int .u8 c] w fun e w' => e = .returned (.int .i64 (idxB c)) ∧ w = w' := by
  refine (Tryz.strings_IndexByte _ _ _).mono ?_
  rintro e w' ⟨rfl, rfl⟩
  exact ⟨rfl, rfl⟩

theorem indexC (c : Int) (w : World) : Calls Tryz.prog 110 #[.string ⟨#[32, 34, 60, 62]⟩, .int .u8 c] w fun e w' => e = .returned (.int .i64 (idxC c)) ∧ w = w' := by
  refine (Tryz.strings_IndexByte _ _ _).mono ?_
  rintro e w' ⟨rfl, rfl⟩
  exact ⟨rfl, rfl⟩

set_option maxHeartbeats 1000000 in
theorem inSet_1 (c : Int) (w : World) (h0 : 0 ≤ c) (h1 : c ≤ 255) :
    Calls Tryz.prog 74 #[.int .u8 c, .int .i64 1] w fun e w' => e = .returned (.bool (inSetI c 1)) ∧ w = w' := by
  have HA := hid (idxA_nonneg c h0 h1)
  have HB := hid (idxB_nonneg c h0 h1)
  have HC := hid (idxC_nonneg c h0 h1)
  go_enter Tryz.func74, Tryz.ntmps74
  go_wp2_with (first | (go_at_call_of 110 (Value.string ⟨#[47, 58, 59, 61, 64, 91, 92, 93, 124]⟩); refine (indexA _ _).mono ?_; rintro e w1 ⟨rfl, rfl⟩) | (go_at_call_of 110 (Value.string ⟨#[63, 94, 96, 123, 125]⟩); refine (indexB _ _).mono ?_; rintro e w1 ⟨rfl, rfl⟩) | (go_at_call_of 110 (Value.string ⟨#[32, 34, 60, 62]⟩); refine (indexC _ _).mono ?_; rintro e w1 ⟨rfl, rfl⟩))
  all_goals
    go_ret
    refine ⟨ret_bool ?_, rfl⟩
    have ha := HA.out; have hb := HB.out; have hc := HC.out
    try simp only [Bool.or_eq_true, Bool.and_eq_true, beq_iff_eq, decide_eq_true_eq, Bool.not_eq_true', decide_eq_false_iff_not, Bool.or_eq_false_iff, Bool.and_eq_false_iff, beq_eq_false_iff_ne, ne_eq] at *
    rw [Bool.eq_iff_iff, inSetI_iff]
    simp only [inSetP, Bool.or_eq_true, Bool.and_eq_true, beq_iff_eq, decide_eq_true_eq, Bool.false_eq_true, true_iff, false_iff, true_and, false_and, or_false, false_or]
    omega

set_option maxHeartbeats 1000000 in
theorem inSet_2 (c : Int) (w : World) (h0 : 0 ≤ c) (h1 : c ≤ 255) :
    Calls Tryz.prog 74 #[.int .u8 c, .int .i64 2] w fun e w' => e = .returned (.bool (inSetI c 2)) ∧ w = w' := by
  have HA := hid (idxA_nonneg c h0 h1)
  have HB := hid (idxB_nonneg c h0 h1)
  have HC := hid (idxC_nonneg c h0 h1)
  go_enter Tryz.func74, Tryz.ntmps74
  go_wp2_with (first | (go_at_call_of 110 (Value.string ⟨#[47, 58, 59, 61, 64, 91, 92, 93, 124]⟩); refine (indexA _ _).mono ?_; rintro e w1 ⟨rfl, rfl⟩) | (go_at_call_of 110 (Value.string ⟨#[63, 94, 96, 123, 125]⟩); refine (indexB _ _).mono ?_; rintro e w1 ⟨rfl, rfl⟩) | (go_at_call_of 110 (Value.string ⟨#[32, 34, 60, 62]⟩); refine (indexC _ _).mono ?_; rintro e w1 ⟨rfl, rfl⟩))
  all_goals
    go_ret
    refine ⟨ret_bool ?_, rfl⟩
    have ha := HA.out; have hb := HB.out; have hc := HC.out
    try simp only [Bool.or_eq_true, Bool.and_eq_true, beq_iff_eq, decide_eq_true_eq, Bool.not_eq_true', decide_eq_false_iff_not, Bool.or_eq_false_iff, Bool.and_eq_false_iff, beq_eq_false_iff_ne, ne_eq] at *
    rw [Bool.eq_iff_iff, inSetI_iff]
    simp only [inSetP, Bool.or_eq_true, Bool.and_eq_true, beq_iff_eq, decide_eq_true_eq, Bool.false_eq_true, true_iff, false_iff, true_and, false_and, or_false, false_or]
    omega

set_option maxHeartbeats 1000000 in
theorem inSet_3 (c : Int) (w : World) (h0 : 0 ≤ c) (h1 : c ≤ 255) :
    Calls Tryz.prog 74 #[.int .u8 c, .int .i64 3] w fun e w' => e = .returned (.bool (inSetI c 3)) ∧ w = w' := by
  have HA := hid (idxA_nonneg c h0 h1)
  have HB := hid (idxB_nonneg c h0 h1)
  have HC := hid (idxC_nonneg c h0 h1)
  go_enter Tryz.func74, Tryz.ntmps74
  go_wp2_with (first | (go_at_call_of 110 (Value.string ⟨#[47, 58, 59, 61, 64, 91, 92, 93, 124]⟩); refine (indexA _ _).mono ?_; rintro e w1 ⟨rfl, rfl⟩) | (go_at_call_of 110 (Value.string ⟨#[63, 94, 96, 123, 125]⟩); refine (indexB _ _).mono ?_; rintro e w1 ⟨rfl, rfl⟩) | (go_at_call_of 110 (Value.string ⟨#[32, 34, 60, 62]⟩); refine (indexC _ _).mono ?_; rintro e w1 ⟨rfl, rfl⟩))
  all_goals
    go_ret
    refine ⟨ret_bool ?_, rfl⟩
    have ha := HA.out; have hb := HB.out; have hc := HC.out
    try simp only [Bool.or_eq_true, Bool.and_eq_true, beq_iff_eq, decide_eq_true_eq, Bool.not_eq_true', decide_eq_false_iff_not, Bool.or_eq_false_iff, Bool.and_eq_false_iff, beq_eq_false_iff_ne, ne_eq] at *
    rw [Bool.eq_iff_iff, inSetI_iff]
    simp only [inSetP, Bool.or_eq_true, Bool.and_eq_true, beq_iff_eq, decide_eq_true_eq, Bool.false_eq_true, true_iff, false_iff, true_and, false_and, or_false, false_or]
    omega

set_option maxHeartbeats 1000000 in
theorem inSet_4 (c : Int) (w : World) (h0 : 0 ≤ c) (h1 : c ≤ 255) :
    Calls Tryz.prog 74 #[.int .u8 c, .int .i64 4] w fun e w' => e = .returned (.bool (inSetI c 4)) ∧ w = w' := by
  have HA := hid (idxA_nonneg c h0 h1)
  have HB := hid (idxB_nonneg c h0 h1)
  have HC := hid (idxC_nonneg c h0 h1)
  go_enter Tryz.func74, Tryz.ntmps74
  go_wp2_with (first | (go_at_call_of 110 (Value.string ⟨#[47, 58, 59, 61, 64, 91, 92, 93, 124]⟩); refine (indexA _ _).mono ?_; rintro e w1 ⟨rfl, rfl⟩) | (go_at_call_of 110 (Value.string ⟨#[63, 94, 96, 123, 125]⟩); refine (indexB _ _).mono ?_; rintro e w1 ⟨rfl, rfl⟩) | (go_at_call_of 110 (Value.string ⟨#[32, 34, 60, 62]⟩); refine (indexC _ _).mono ?_; rintro e w1 ⟨rfl, rfl⟩))
  all_goals
    go_ret
    refine ⟨ret_bool ?_, rfl⟩
    have ha := HA.out; have hb := HB.out; have hc := HC.out
    try simp only [Bool.or_eq_true, Bool.and_eq_true, beq_iff_eq, decide_eq_true_eq, Bool.not_eq_true', decide_eq_false_iff_not, Bool.or_eq_false_iff, Bool.and_eq_false_iff, beq_eq_false_iff_ne, ne_eq] at *
    rw [Bool.eq_iff_iff, inSetI_iff]
    simp only [inSetP, Bool.or_eq_true, Bool.and_eq_true, beq_iff_eq, decide_eq_true_eq, Bool.false_eq_true, true_iff, false_iff, true_and, false_and, or_false, false_or]
    omega

set_option maxHeartbeats 1000000 in
theorem inSet_5 (c : Int) (w : World) (h0 : 0 ≤ c) (h1 : c ≤ 255) :
    Calls Tryz.prog 74 #[.int .u8 c, .int .i64 5] w fun e w' => e = .returned (.bool (inSetI c 5)) ∧ w = w' := by
  have HA := hid (idxA_nonneg c h0 h1)
  have HB := hid (idxB_nonneg c h0 h1)
  have HC := hid (idxC_nonneg c h0 h1)
  go_enter Tryz.func74, Tryz.ntmps74
  go_wp2_with (first | (go_at_call_of 110 (Value.string ⟨#[47, 58, 59, 61, 64, 91, 92, 93, 124]⟩); refine (indexA _ _).mono ?_; rintro e w1 ⟨rfl, rfl⟩) | (go_at_call_of 110 (Value.string ⟨#[63, 94, 96, 123, 125]⟩); refine (indexB _ _).mono ?_; rintro e w1 ⟨rfl, rfl⟩) | (go_at_call_of 110 (Value.string ⟨#[32, 34, 60, 62]⟩); refine (indexC _ _).mono ?_; rintro e w1 ⟨rfl, rfl⟩))
  all_goals
    go_ret
    refine ⟨ret_bool ?_, rfl⟩
    have ha := HA.out; have hb := HB.out; have hc := HC.out
    try simp only [Bool.or_eq_true, Bool.and_eq_true, beq_iff_eq, decide_eq_true_eq, Bool.not_eq_true', decide_eq_false_iff_not, Bool.or_eq_false_iff, Bool.and_eq_false_iff, beq_eq_false_iff_ne, ne_eq] at *
    rw [Bool.eq_iff_iff, inSetI_iff]
    simp only [inSetP, Bool.or_eq_true, Bool.and_eq_true, beq_iff_eq, decide_eq_true_eq, Bool.false_eq_true, true_iff, false_iff, true_and, false_and, or_false, false_or]
    omega

set_option maxHeartbeats 1000000 in
theorem inSet_6 (c : Int) (w : World) (h0 : 0 ≤ c) (h1 : c ≤ 255) :
    Calls Tryz.prog 74 #[.int .u8 c, .int .i64 6] w fun e w' => e = .returned (.bool (inSetI c 6)) ∧ w = w' := by
  have HA := hid (idxA_nonneg c h0 h1)
  have HB := hid (idxB_nonneg c h0 h1)
  have HC := hid (idxC_nonneg c h0 h1)
  go_enter Tryz.func74, Tryz.ntmps74
  go_wp2_with (first | (go_at_call_of 110 (Value.string ⟨#[47, 58, 59, 61, 64, 91, 92, 93, 124]⟩); refine (indexA _ _).mono ?_; rintro e w1 ⟨rfl, rfl⟩) | (go_at_call_of 110 (Value.string ⟨#[63, 94, 96, 123, 125]⟩); refine (indexB _ _).mono ?_; rintro e w1 ⟨rfl, rfl⟩) | (go_at_call_of 110 (Value.string ⟨#[32, 34, 60, 62]⟩); refine (indexC _ _).mono ?_; rintro e w1 ⟨rfl, rfl⟩))
  all_goals
    go_ret
    refine ⟨ret_bool ?_, rfl⟩
    have ha := HA.out; have hb := HB.out; have hc := HC.out
    try simp only [Bool.or_eq_true, Bool.and_eq_true, beq_iff_eq, decide_eq_true_eq, Bool.not_eq_true', decide_eq_false_iff_not, Bool.or_eq_false_iff, Bool.and_eq_false_iff, beq_eq_false_iff_ne, ne_eq] at *
    rw [Bool.eq_iff_iff, inSetI_iff]
    simp only [inSetP, Bool.or_eq_true, Bool.and_eq_true, beq_iff_eq, decide_eq_true_eq, Bool.false_eq_true, true_iff, false_iff, true_and, false_and, or_false, false_or]
    omega

set_option maxHeartbeats 1000000 in
theorem inSet_none (c set : Int) (w : World) (hs : ¬ (1 ≤ set ∧ set ≤ 6)) :
    Calls Tryz.prog 74 #[.int .u8 c, .int .i64 set] w fun e w' => e = .returned (.bool (inSetI c set)) ∧ w = w' := by
  have h1 : (set == 1) = false := by simp; omega
  have h2 : (set == 2) = false := by simp; omega
  have h3 : (set == 3) = false := by simp; omega
  have h4 : (set == 4) = false := by simp; omega
  have h5 : (set == 5) = false := by simp; omega
  have h6 : (set == 6) = false := by simp; omega
  have HS := hid hs
  clear hs
  go_enter Tryz.func74, Tryz.ntmps74
  go_wp2
  go_ret
  refine ⟨ret_bool ?_, rfl⟩
  rw [Bool.eq_iff_iff, inSetI_iff]
  have := HS.out
  simp only [inSetP, Bool.false_eq_true, false_iff]
  omega

theorem inSet_any (c set : Int) (w : World) (h0 : 0 ≤ c) (h1 : c ≤ 255) :
    Calls Tryz.prog 74 #[.int .u8 c, .int .i64 set] w fun e w' => e = .returned (.bool (inSetI c set)) ∧ w = w' := by
  by_cases hs : 1 ≤ set ∧ set ≤ 6
  · rcases (show set = 1 ∨ set = 2 ∨ set = 3 ∨ set = 4 ∨ set = 5 ∨ set = 6 from by omega) with rfl | rfl | rfl | rfl | rfl | rfl
    · exact inSet_1 c w h0 h1
    · exact inSet_2 c w h0 h1
    · exact inSet_3 c w h0 h1
    · exact inSet_4 c w h0 h1
    · exact inSet_5 c w h0 h1
    · exact inSet_6 c w h0 h1
  · exact inSet_none c set w hs

end Go.Proofs.YtjmkccnjjofmeaaGreatDoor

namespace Go.Proofs.YtjmkccnjjofmeaaGreatDoor
open Go.RowKit

set_option maxHeartbeats 1000000 in
theorem percent_any (s : ByteArray) (set : Int) (w : World) (hs : s.size ≤ 35184372088832) :
    Calls Tryz.prog 45 #[.string s, .int .i64 set] w fun e w' => e = .returned (.string ⟨(pct set s.data.toList).toArray⟩) ∧ Below w.heap.size w w' := by
  go_enter Tryz.func45, Tryz.ntmps45
  go_wp2
  go_loopw [10] (fun i wr => ∃ k : Nat, k ≤ s.size ∧ i = .int .i64 k ∧ Lib.IsBuilderF 80 5 w.heap.size w.heap.size (Lib.byteCells (pct set (s.data.toList.take k))) wr ∧ Below w.heap.size w wr)
    (fun i _ => s.size - (intOf i).toNat)
  case atStart =>
    exact ⟨0, Nat.zero_le _, rfl, Lib.IsBuilderF.of (Lib.fresh_isBuilder 80 5 w), (Below.refl _ w).alloc (Nat.le_refl _) _⟩
  case round =>
    obtain ⟨k, hk, rfl, hI, hbw⟩ := hrel
    have hle := pct_le set (s.data.toList.take k)
    have htl : (s.data.toList.take k).length ≤ k := List.length_take_le _ _
    by_cases hlt : k < s.size
    · have HT := hid (take_snoc s k hlt)
      have HP := hid (pct_snoc set (s.data.toList.take k) s[k])
      generalize pct set (s.data.toList.take k) = acc at *
      have hc8 : s[k].toNat < 256 := s[k].toNat_lt
      by_cases hin : inSetI (s[k].toNat : Int) set = true
      · go_wp2_with (first | (go_at_call 74; refine (inSet_any _ _ _ (by omega) (by omega)).mono ?_; rintro e w' ⟨rfl, rfl⟩))
        refine (writeByte_k w.heap.size w.heap.size _ 37 _ hI (by rw [Lib.byteCells_length]; omega) hbw.size).mono ?_
        rintro e w1 ⟨rfl, h1, b1, _⟩
        go_wp2_with fail
        rw [hexD_at]
        refine (writeByte_k w.heap.size w.heap.size _ _ _ (.inr h1) (by rw [List.length_append, Lib.byteCells_length]; simp; omega) (by have := hbw.size; have := b1.size; omega)).mono ?_
        rintro e w2 ⟨rfl, h2, b2, _⟩
        have ha := and15 s[k].toNat hc8
        go_wp2_with fail
        rw [hexD_at]
        refine (writeByte_k w.heap.size w.heap.size _ _ _ (.inr h2) (by rw [List.length_append, List.length_append, Lib.byteCells_length]; simp; omega) (by have := hbw.size; have := b1.size; have := b2.size; omega)).mono ?_
        rintro e w3 ⟨rfl, h3, b3, _⟩
        go_wp2
        go_roundw
        case rel =>
          refine ⟨k + 1, by omega, by go_num, ?_, ((hbw.trans b1).trans b2).trans b3⟩
          rw [HT.out, HP.out, pct1, hin, Lib.byteCells_append]
          refine .inr ?_
          have e3 : Lib.byteCells (esc s[k]) = [.int .u8 37] ++ [.int .u8 (hexD (s[k].toNat / 16)).toNat] ++ [.int .u8 (hexD (s[k].toNat % 16)).toNat] := rfl
          rw [if_pos rfl, e3]
          simpa using h3
        case measure => simp [intOf]; omega
      · have hin' : inSetI (s[k].toNat : Int) set = false := by simpa using hin
        clear hin
        go_wp2_with (first | (go_at_call 74; refine (inSet_any _ _ _ (by omega) (by omega)).mono ?_; rintro e w' ⟨rfl, rfl⟩))
        refine (writeByte_k w.heap.size w.heap.size _ _ _ hI (by rw [Lib.byteCells_length]; omega) hbw.size).mono ?_
        rintro e w1 ⟨rfl, h1, b1, _⟩
        go_wp2
        go_roundw
        case rel =>
          refine ⟨k + 1, by omega, by go_num, ?_, hbw.trans b1⟩
          rw [HT.out, HP.out, pct1, hin', Lib.byteCells_append]
          exact .inr h1
        case measure => simp [intOf]; omega
    · rw [take_all s k hlt] at hI
      go_wp2_with (go_at_call 43; refine (Tryz.Builder_String_any_k w.heap.size w.heap.size _ _ hI hbw.size).mono ?_)
      rintro e w1 ⟨rfl, _, b1, _⟩
      go_wp2
      go_ret
      exact ⟨rfl, hbw.trans b1⟩

end Go.Proofs.YtjmkccnjjofmeaaGreatDoor

namespace Go.Proofs.YtjmkccnjjofmeaaGreatDoor
open Go.RowKit

theorem nameV_bad {l : List UInt8} (h : l = [] ∨ allN l = false ∨ coded l = true) : nameV l = none := by rw [nameV, if_pos h]

theorem nameV_name {l : List UInt8} (h0 : l ≠ []) (h1 : allN l = true) (h2 : coded l = false) (h3 : numberedV l = false) : nameV l = some l := by simp [nameV, h0, h1, h2, h3]

theorem nameV_num {l : List UInt8} (h0 : l ≠ []) (h1 : allN l = true) (h2 : coded l = false) (h3 : numberedV l = true) : nameV l = (fourV l).map text4 := by simp [nameV, h0, h1, h2, h3]

theorem fourN_lt : ∀ (r h : Nat) (l : List UInt8) (n : Nat), r ≤ 4 → h < 2 ^ (8 * (4 - r)) → fourN r h l = some n → n < 4294967296
  | 0, _, _, _, _, _, e => by cases e
  | r + 1, h, l, n, hr, hh, e => by
    have ep : 2 ^ (8 * (4 - (r + 1))) * 2 ^ (8 * (r + 1)) = 4294967296 := by
      rw [← Nat.pow_add, show 8 * (4 - (r + 1)) + 8 * (r + 1) = 32 by omega]
    rw [fourN] at e
    split at e
    · cases e
    · split at e
      · split at e
        · cases e
        · refine fourN_lt r _ _ n (by omega) ?_ e
          have e2 : 8 * (4 - r) = 8 * (4 - (r + 1)) + 8 := by omega
          rw [e2, Nat.pow_add]
          omega
      · split at e
        · rename_i m _ _ hm
          cases e
          have h1 : (h + 1) * 2 ^ (8 * (r + 1)) ≤ 2 ^ (8 * (4 - (r + 1))) * 2 ^ (8 * (r + 1)) := Nat.mul_le_mul_right _ hh
          rw [ep, Nat.add_mul, Nat.one_mul] at h1
          omega
        · cases e

theorem fourV_lt {l : List UInt8} {n : Nat} (h : fourV l = some n) : n < 4294967296 := fourN_lt 4 0 _ n (by omega) (by decide) h

end Go.Proofs.YtjmkccnjjofmeaaGreatDoor

namespace Go.Proofs.YtjmkccnjjofmeaaGreatDoor
open Go.RowKit

theorem plainB_le {l : List UInt8} {n : Nat} (h : plainB l = some n) : n ≤ 255 := by
  unfold plainB at h
  split at h
  · cases h
  · split at h
    · cases h
    · cases h; omega

end Go.Proofs.YtjmkccnjjofmeaaGreatDoor

namespace Go.Proofs.YtjmkccnjjofmeaaGreatDoor
open Go.RowKit

theorem infoU16 : (Tryz.prog.info? 166).map (fun i => (i.zero, i.size, i.bytes)) = some (some (.int .u16 0), 1, 2) := by kernel_rfl

def cells16 (l : List Nat) : List Value := l.map fun (n : Nat) => Value.int .u16 (n : Int)

theorem cells16_app (a b : List Nat) : cells16 (a ++ b) = cells16 a ++ cells16 b := by simp [cells16]

theorem cells16_len (a : List Nat) : (cells16 a).length = a.length := by simp [cells16]

theorem own_form {w : World} {base : Nat} {e : TypeId} {size n : Nat} {v : Value} {xs : List Value} (h : w.ownsRow base e size v n xs) : ∃ a cap, v = .slice a n cap := by
  rcases h.2 with ⟨rfl, rfl⟩ | ⟨g, cap, cur, rfl, _⟩
  · exact ⟨none, 0, rfl⟩
  · exact ⟨_, cap, rfl⟩

theorem piecesN_done {e : Bool} {f : Nat} {out : List Nat} {l : List UInt8} : piecesN e f out l false = some out := by cases f <;> rfl

theorem own_kept {w w' : World} {base : Nat} {e : TypeId} {size n : Nat} {v : Value} {xs : List Value} (h : w.ownsRow base e size v n xs) (hb : Below w.heap.size w w') : w'.ownsRow base e size v n xs := by
  refine ⟨h.1, ?_⟩
  rcases h.2 with h | ⟨g, cap, cur, hv, h1, h2, h3⟩
  · exact .inl h
  · refine .inr ⟨g, cap, cur, hv, h1, ?_, h3⟩
    have hlt : g < w.heap.size := by
      rcases Nat.lt_or_ge g w.heap.size with h' | h'
      · exact h'
      · rw [Array.getElem?_eq_none h'] at h2; cases h2
    rw [hb.block g hlt]; exact h2

theorem own_nil (w : World) (base : Nat) (e : TypeId) : w.ownsRow base e 1 (.slice none 0 0) 0 [] := ⟨rfl, .inl ⟨rfl, rfl⟩⟩

end Go.Proofs.YtjmkccnjjofmeaaGreatDoor

namespace Go.Proofs.YtjmkccnjjofmeaaGreatDoor
open Go.RowKit

def zero8 : List Nat := [0, 0, 0, 0, 0, 0, 0, 0]

def agg8 (x : List Nat) : Value := .agg (cells16 x).toArray

theorem row_kept {w w' : World} {g : Nat} {o : Obj} (h : w.heap[g]? = some o) (hb : Below w.heap.size w w') : w'.heap[g]? = some o := by
  have hlt : g < w.heap.size := by
    rcases Nat.lt_or_ge g w.heap.size with h' | h'
    · exact h'
    · rw [Array.getElem?_eq_none h'] at h; cases h
  rw [hb.block g hlt]; exact h

theorem there_row {w : World} {g n : Nat} {cs : Array Value} {t : TypeId} (h : w.heap[g]? = some (.cells cs t (0, 0))) (hn : n ≤ cs.size) : w.there g 0 n := by
  intro j hj
  constructor
  · rw [cell_of_row w g _ cs t _ h]; simp; omega
  · simp [World.frozen?, h]

theorem range_row {w : World} {g : Nat} {cs : List Value} {t : TypeId} {f : Nat × Nat} (h : w.heap[g]? = some (.cells cs.toArray t f)) : w.rangeAt g 0 cs := by
  intro j v hv
  rw [Nat.zero_add, cell_of_row w g j _ t _ h]
  simpa using hv

theorem below_setCells {B b : Nat} (hb : B ≤ b) {w0 : World} : ∀ (vs : List Value) (o : Nat) (w : World), Below B w0 w → Below B w0 (w.setCells b o vs)
  | [], _, _, h => h
  | v :: r, o, w, h => by
    rw [World.setCells]
    exact below_setCells hb r (o + 1) _ (h.setCell (p := ⟨b, o, none⟩) hb v)

theorem results_six {fn : Func} {p u : Tmp} {ty : TypeId} (h : fn.results = #[.cell p ty, .tmp u]) (tmps : Array Value) (P : Program) (w : World) (b : Nat) (cs : List Value) (d : TypeDesc) (hp : tmps.getD p undef = .pointer (some ⟨b, 0, none⟩)) (hc : w.rangeAt b 0 cs)
    (hu : P.underlying ty = some d) (hd : d.isRow = true) (hi : (P.info? ty).map (·.size) = some cs.length) : (results fn tmps).run P w = .ok (.tuple #[.agg cs.toArray, tmps.getD u undef]) w := by
  rw [results_cell_tmp h, hp]
  simp [asAddr, Result.andThen, run_loadVar_mid w b 0 ty cs d hc hu hd hi]

theorem own_src {w w' : World} {base : Nat} {e : TypeId} {a : Option Addr} {cap : Nat} {o : List Nat} (h : w.ownsRow base e 1 (.slice a o.length cap) o.length (cells16 o)) (h0 : 0 < o.length) (hb : Below w.heap.size w w') :
    ∃ ad, a = some ad ∧ ∀ j v, (cells16 o)[j]? = some v → w'.cell? (ad.add j) = some v := by
  rcases h.2 with ⟨hv, hn⟩ | ⟨g, cap', cur, hv, _⟩
  · omega
  · cases hv
    refine ⟨⟨g, 0, none⟩, rfl, fun j v hj => ?_⟩
    have hc := h.cells (g := g) rfl j v hj
    have hlt := World.block_lt_of_cell? w _ hc
    rw [hb.cell hlt]
    exact hc

def cutAd (b k : Nat) : Addr := if k = 0 then ⟨b, 0, none⟩ else ⟨b, 8 - k, none⟩

theorem slice8_from (b k : Nat) (hk : k ≤ 8) (w : World) : (Instr.sliceAt 167 (.pointer (some ⟨b, 0, none⟩)) (some (.int .i64 (8 - (k : Int)))) none none).run Tryz.prog w = .ok (.slice (some (cutAd b k)) k k) w := by
  have e8 : Tryz.prog.arrayLen 167 = 8 := by kernel_rfl
  have es : (sizeOf (Tryz.prog.elem 167)).run Tryz.prog w = .ok 1 w := by kernel_rfl
  rw [run_sliceAt_array_l w 167 ⟨b, 0, none⟩ (by kernel_rfl) .i64 _ (by omega) (by rw [e8]; omega), es, e8]
  simp only [Result.andThen, slicedAt]
  have e1 : (8 - (k : Int)).toNat = 8 - k := by omega
  have e2 : 8 - (8 - k) = k := by omega
  have e3 : (if 8 = 8 - k then (⟨b, 0, none⟩ : Addr) else (⟨b, 0, none⟩ : Addr).add ((8 - k) * 1)) = cutAd b k := by
    unfold cutAd
    by_cases h0 : k = 0
    · subst h0; rfl
    · rw [if_neg (by omega), if_neg h0, Addr.add_mid]; simp
  rw [e1, e2, e3]

theorem size8 : (Tryz.prog.info? 167).map (·.size) = some 8 := by kernel_rfl

theorem cells16_one (x : List Nat) : ∀ v ∈ cells16 x, v.oneCell' = true := by
  intro v hv
  obtain ⟨n, _, rfl⟩ := List.mem_map.1 hv
  rfl

theorem splice16 (a b : List Nat) (h : a.length + b.length ≤ 8) : splice (splice (cells16 zero8) 0 (cells16 a)) (8 - b.length) (cells16 b) = cells16 (a ++ List.replicate (8 - a.length - b.length) 0 ++ b) := by
  have hz : cells16 zero8 = List.replicate 8 (Value.int .u16 0) := rfl
  have e1 : splice (cells16 zero8) 0 (cells16 a) = cells16 a ++ List.replicate (8 - a.length) (Value.int .u16 0) := by
    unfold splice
    rw [hz, List.take_zero, List.nil_append, Nat.zero_add, cells16_len, List.drop_replicate]
  rw [e1]
  unfold splice
  rw [cells16_app, cells16_app, cells16_len, List.take_append, List.take_of_length_le (by rw [cells16_len]; omega), cells16_len, List.take_replicate, List.append_assoc, List.append_assoc]
  congr 1
  have e2 : min (8 - b.length - a.length) (8 - a.length) = 8 - a.length - b.length := by omega
  have e3 : (cells16 a ++ List.replicate (8 - a.length) (Value.int IntKind.u16 0)).drop (8 - b.length + b.length) = [] := by
    apply List.drop_eq_nil_of_le
    rw [List.length_append, cells16_len, List.length_replicate]; omega
  rw [e2, e3, List.append_nil]
  congr 1
  simp [cells16]

end Go.Proofs.YtjmkccnjjofmeaaGreatDoor

namespace Go.Proofs.YtjmkccnjjofmeaaGreatDoor
open Go.RowKit

theorem infoStr : (Tryz.prog.info? 9).map (fun i => (i.zero, i.size, i.bytes)) = some (some (.string ByteArray.empty), 1, 16) := by kernel_rfl

def hexB (n : Nat) : ByteArray := ⟨(hex16 n).toArray⟩

/-- Block g is a row of as many texts as x has numbers; the first k are written. -/
def Strs (w : World) (g : Nat) (x : List Nat) (k : Nat) : Prop :=
  ∃ cur : Array Value, w.heap[g]? = some (.cells cur 9 (0, 0)) ∧ cur.size = x.length ∧ ∀ j (h : j < x.length), j < k → cur[j]? = some (.string (hexB x[j]))

theorem Strs.kept {w w' : World} {g : Nat} {x : List Nat} {k : Nat} (h : Strs w g x k) (hb : Below w.heap.size w w') : Strs w' g x k := by
  obtain ⟨cur, hg, h2⟩ := h
  exact ⟨cur, row_kept hg hb, h2⟩

theorem Strs.cell {w : World} {g : Nat} {x : List Nat} {k : Nat} (h : Strs w g x k) (j : Nat) (hj : j < x.length) : ∃ v, w.cell? ⟨g, j, none⟩ = some v := by
  obtain ⟨cur, hg, hs, _⟩ := h
  rw [cell_of_row w g j cur _ _ hg]
  exact ⟨cur[j], by simp [hs, hj]⟩

theorem Strs.frozen {w : World} {g : Nat} {x : List Nat} {k : Nat} (h : Strs w g x k) (j : Nat) : w.frozen? ⟨g, j, none⟩ = false := by
  obtain ⟨cur, hg, _⟩ := h
  simp [World.frozen?, hg]

theorem Strs.set {w : World} {g : Nat} {x : List Nat} {k : Nat} (h : Strs w g x k) (hk : k < x.length) : Strs (w.setCell ⟨g, k, none⟩ (.string (hexB x[k]))) g x (k + 1) := by
  obtain ⟨cur, hg, hs, hc⟩ := h
  refine ⟨_, Lib.heap_setCell_same hg _, by simpa using hs, ?_⟩
  intro j hj hj2
  by_cases e : k = j
  · subst e
    have : k < cur.size := by omega
    simp [this]
  · simp [Array.getElem?_setIfInBounds, e]
    exact hc j hj (by omega)

theorem hex16_le (n : Nat) : (hex16 n).length ≤ 5 := by
  have key : ∀ (f m : Nat) (acc : List UInt8), (digsN 16 f m acc).length ≤ acc.length + f := by
    intro f
    induction f with
    | zero => intro m acc; simp [digsN]
    | succ f ih =>
      intro m acc
      rw [digsN]
      split
      · simp
      · have := ih (m / 16) (digC (m % 16) :: acc)
        simp at this
        omega
  have := key 4 n []
  simp at this
  unfold hex16
  omega

theorem joined_le (x : List Nat) : (joined x).length ≤ 6 * x.length := by
  unfold joined
  induction x with
  | nil => simp [Lib.join, List.intercalate]
  | cons a x ih =>
    have ha := hex16_le a
    cases x with
    | nil => simp [Lib.join_one]; omega
    | cons b x =>
      have e : Lib.join ((a :: b :: x).map hex16) [58] = hex16 a ++ [58] ++ Lib.join ((b :: x).map hex16) [58] := by
        simp [Lib.join, List.intercalate, List.intersperse]
      rw [e]
      simp only [List.length_append, List.length_cons, List.length_nil] at ih ⊢
      omega

/-- The numbers x lie in memory from ⟨b, o⟩ on. -/
def Nums (w : World) (b o : Nat) (x : List Nat) : Prop := ∀ j (h : j < x.length), w.cell? ⟨b, o + j, none⟩ = some (.int .u16 (x[j] : Int))

theorem Nums.kept {w w' : World} {b o : Nat} {x : List Nat} (h : Nums w b o x) (hb : Below w.heap.size w w') : Nums w' b o x := fun j hj => by
  rw [hb.cell (World.block_lt_of_cell? w _ (h j hj))]; exact h j hj

end Go.Proofs.YtjmkccnjjofmeaaGreatDoor

namespace Go.Proofs.YtjmkccnjjofmeaaGreatDoor
open Go.RowKit

theorem nums_row {w : World} {g : Nat} {x : List Nat} {t : TypeId} {f : Nat × Nat} (h : w.heap[g]? = some (.cells (cells16 x).toArray t f)) : Nums w g 0 x := fun j hj => by
  rw [Nat.zero_add, cell_of_row w g j _ t f h]
  simp [cells16, hj]

theorem zeros_hit {l : List Nat} {e : Nat} (h : e < l.length) (h0 : l[e] = 0) : zeros (l.drop e) = zeros (l.drop (e + 1)) + 1 := by
  rw [List.drop_eq_getElem_cons h, zeros, if_pos h0]

theorem zeros_miss {l : List Nat} {e : Nat} (h : e < l.length) (h0 : l[e] ≠ 0) : zeros (l.drop e) = 0 := by
  rw [List.drop_eq_getElem_cons h, zeros, if_neg h0]

theorem lrunN_take {i fr to : Nat} {x : List Nat} (h : i < x.length) (hz : max (to - fr) 1 < zeros (x.drop i)) : lrunN 0 i fr to (x.drop i) = lrunN 0 (i + 1) i (i + zeros (x.drop i)) (x.drop (i + 1)) := by
  rw [List.drop_eq_getElem_cons h] at hz ⊢
  rw [lrunN, if_pos hz]

theorem lrunN_skip {i fr to : Nat} {x : List Nat} (h : i < x.length) (hz : ¬ max (to - fr) 1 < zeros (x.drop i)) : lrunN 0 i fr to (x.drop i) = lrunN 0 (i + 1) fr to (x.drop (i + 1)) := by
  rw [List.drop_eq_getElem_cons h] at hz ⊢
  rw [lrunN, if_neg hz]

end Go.Proofs.YtjmkccnjjofmeaaGreatDoor

namespace Go.Proofs.YtjmkccnjjofmeaaGreatDoor
open Go.RowKit

theorem Nums.take {w : World} {b : Nat} {x : List Nat} (h : Nums w b 0 x) (k : Nat) : Nums w b 0 (x.take k) := fun j hj => by
  have hj' : j < x.length := by simp at hj; omega
  rw [List.getElem_take]; exact h j hj'

theorem Nums.drop {w : World} {b : Nat} {x : List Nat} (h : Nums w b 0 x) (k : Nat) : Nums w b k (x.drop k) := fun j hj => by
  have hj' : k + j < x.length := by simp at hj; omega
  rw [List.getElem_drop]
  have := h (k + j) hj'
  rwa [Nat.zero_add] at this

end Go.Proofs.YtjmkccnjjofmeaaGreatDoor
