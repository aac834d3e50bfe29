/-
  Walks and plain facts that this claim leans on, put together out of 5 texts: Wb, Wa, We, Wf, Vf.
-/
import Derived.Test.YtgoefeaopegdoaaGreatDoorProg
import Derived.Test.YtgoefeaopegdoaaGreatDoorQx1
import Derived.Test.YtgoefeaopegdoaaGreatDoorQx2
import Derived.Test.YtgoefeaopegdoaaGreatDoorQx3
import Derived.WalkKit
import Derived.WalkSpells
import Derived.WalkLawsBesides
import Derived.Lib.FrozenHead2
import Derived.Lib.OthersKept
import Derived.Lib.Builder
import Derived.Lib.Strings
import Derived.Lib.UnsafeStr
import Derived.Laws.IdiomStrings
import Derived.Laws.AppendOwn
import Derived.Laws.BitsAllLaws
import Derived.Lib.Bytealg
import Derived.Shelf.Strings.Builder1
import Derived.Shelf.Strings.Builder2
import Derived.Shelf.Strings.OnBuilder
import Derived.Shelf.Strings.Trim
import Derived.Shelf.Small.Utf8
import Derived.Shelf.Small.Bits
import Derived.Shelf.Small.Strs
import Derived.Shelf.Small.Wraps
import Derived.Shelf.Strings.BuilderF
import Derived.Shelf.Strings.BuilderK
import Derived.Shelf.Strings.BuilderRune
import Derived.Shelf.Utf8.AppendRune
import Derived.Shelf.Utf8.AppendRunePlain
import Derived.Shelf.Strings.Builder2Cap
import Derived.Shelf.Strconv.Itoa0
import Derived.Shelf.Strconv.Itoa1
import Derived.Shelf.LaysM
import Derived.Shelf.Strconv.Itoa2
import Derived.Shelf.Strconv.Itoa3
import Derived.Shelf.Strings.Search1
import Derived.Shelf.Strings.Search2
import Derived.Shelf.Strings.Search3
import Derived.Shelf.Strings.Cut
import Derived.Shelf.Strings.Count
import Derived.Shelf.Strings.Shaped
import Derived.Shelf.Strings.LastIndex
import Derived.Shelf.Strings.Prefix
import Derived.Shelf.Strings.Split
import Derived.Shelf.Strings.Replace
import Derived.Shelf.Strings.Runes
import Derived.Shelf.Strings.IndexAny
import Derived.Shelf.Strings.AsciiSet
import Derived.Shelf.Strings.IndexAnyAll
import Derived.Shelf.Unicode.DecodeSlow
import Derived.Ground.Names2Prog
import Derived.Shelf.Slices.Clone
import Derived.Shelf.Slices.In.SortNone
import Derived.Ground.SlgnProg
import Derived.Shelf.SlicesE.Clone
import Derived.Deep.RegionWith
import Derived.Lib.IndexMore
import Derived.Lib.Join
import Derived.Lib.LastIndexByte
import Derived.Lib.BufferMore
import Derived.Lib.AppendIntMem
import Derived.Lib.SmallJoins
import Derived.WalkSmall
import Derived.WalkMore
import Derived.Deep.LoopGhost
set_option linter.unusedSimpArgs false
set_option linter.unusedVariables false

namespace Go.Proofs.YtgoefeaopegdoaaGreatDoor
open Go.RowKit

theorem sizeBuilder : (Tryz.prog.info? 115).map (·.size) = some 2 := by kernel_rfl

theorem liesBuilder : liesAt Tryz.prog Tryz.prog.depth 115 (2 / Tryz.prog.cellsOf 115) 0 115 1 = true := by kernel_rfl

theorem infoByte : (Tryz.prog.info? 5).map (fun i => (i.zero, i.size, i.bytes)) = some (some (.int .u8 0), 1, 1) := by kernel_rfl

set_option maxHeartbeats 1000000 in
set_option maxRecDepth 100000 in
theorem copyCheck_fresh (b : Nat) (w : World) (h0 : w.cell? ⟨b, 0, none⟩ = some (.pointer none)) (hsh : w.shape? b = some (115, 2)) (hfz : w.frozen? ⟨b, 0, none⟩ = false) :
  Calls Tryz.prog 135 #[.pointer (some ⟨b, 0, none⟩)] w fun e w' => e = .returned (.tuple #[]) ∧ w' = w.setCell ⟨b, 0, none⟩ (.pointer (some ⟨b, 0, none⟩)) := by
 obtain ⟨j, hj, hjs⟩ := Option.map_eq_some_iff.1 sizeBuilder
 go_enter Tryz.func135, Tryz.ntmps135
 go_wp2
 rw [Lib.run_to_unsafe w ⟨b, 0, none⟩ Tryz.underlying112 Tryz.underlying199 hj (by rw [hjs]; decide) hsh (Nat.zero_lt_succ 1)]
 simp only [Result.andThen]
 rw [Oper.upon_value]
 go_wp2
 rw [run_callFunc_extern Tryz.func189 (by kernel_rfl) (by kernel_rfl) (by kernel_rfl) (e := Extern.AbiNoEscape.same) (by kernel_rfl)]
 rw [Lib.run_noEscape]
 simp only [Result.andThen]
 rw [Oper.upon_value]
 go_wp2
 rw [Lib.run_from_unsafe w ⟨b, 0, none⟩ Tryz.underlying199 Tryz.underlying112 hj hsh liesBuilder]
 simp only [Result.andThen]
 rw [Oper.upon_value]
 go_wp2
 go_end0
 exact ⟨rfl, rfl⟩

set_option maxHeartbeats 1000000 in
set_option maxRecDepth 100000 in
theorem copyCheck_used (b : Nat) (w : World) (h0 : w.cell? ⟨b, 0, none⟩ = some (.pointer (some ⟨b, 0, none⟩))) :
  Calls Tryz.prog 135 #[.pointer (some ⟨b, 0, none⟩)] w fun e w' => e = .returned (.tuple #[]) ∧ w' = w := by
 obtain ⟨j, hj, hjs⟩ := Option.map_eq_some_iff.1 sizeBuilder
 go_enter Tryz.func135, Tryz.ntmps135
 go_wp2
 rw [Lib.run_neq_ptr_same w _ Tryz.underlying112 hj]
 go_wp2
 go_end0
 exact ⟨rfl, rfl⟩

theorem copyCheck_k (B b : Nat) (bs : List Value) (w : World) (h : Lib.IsBuilderF 115 5 B b bs w) :
  Calls Tryz.prog 135 #[.pointer (some ⟨b, 0, none⟩)] w fun e w' => e = .returned (.tuple #[]) ∧ (Lib.BuilderAtF 115 5 B b (.pointer (some ⟨b, 0, none⟩)) bs w' ∧ Below B w w' ∧ Lib.OthersKept 5 (some b) w w') := by
 rcases h with h | h
 ·refine (copyCheck_fresh b w h.cell0 h.shape h.frozen0).mono ?_
  rintro e w' ⟨rfl, rfl⟩
  exact ⟨rfl, h.used _, (Below.refl B w).setCell (p := ⟨b, 0, none⟩) h.1 _, (Lib.OthersKept.refl _ _ w).setCell ⟨b, 0, none⟩ rfl _⟩
 ·refine (copyCheck_used b w h.cell0).mono ?_
  rintro e w' ⟨rfl, rfl⟩
  exact ⟨rfl, h, Below.refl B _, Lib.OthersKept.refl _ _ _⟩

set_option maxHeartbeats 2000000 in
set_option maxRecDepth 100000 in
theorem writeByte_k (B b : Nat) (bs : List Value) (c : Int) (w : World) (h : Lib.IsBuilderF 115 5 B b bs w) (hlen : bs.length + 1 ≤ 140737488355328) (hBw : B ≤ w.heap.size) :
  Calls Tryz.prog 81 #[.pointer (some ⟨b, 0, none⟩), .int .u8 c] w fun e w' => e = .returned .nilIface ∧ (Lib.BuilderAtF 115 5 B b (.pointer (some ⟨b, 0, none⟩)) (bs ++ [.int .u8 c]) w' ∧ Below B w w' ∧ Lib.OthersKept 5 (some b) w w') := by
 obtain ⟨i0, hi, hz0, hz1, hz2⟩ := info_parts infoByte
 go_enter Tryz.func81, Tryz.ntmps81
 go_wp2_with (go_at_call 135; refine (copyCheck_k B b bs _ h).mono ?_)
 rintro e w1 ⟨rfl, h1, hb1, hk1⟩
 obtain ⟨hB, v, hbk, hown, hne⟩ := h1
 have c0 : w1.cell? ⟨b, 0, none⟩ = some (.pointer (some ⟨b, 0, none⟩)) := by rw [Lib.cell_of_heap hbk]; rfl
 have c1 : w1.cell? ⟨b, 1, none⟩ = some v := by rw [Lib.cell_of_heap hbk]; rfl
 go_wp2_with (at_builtin; refine wpList_append_ownF _ rfl _ _ 113 rfl B 5 i0 (.int .u8 0) 1 1 Tryz.underlying113 hi hz0 hz1 hz2 rfl (by decide) _ _ _ rfl (hown.alloc _) ⟨w1.heap.size, 0, none⟩ 1 1 [.int .u8 c] rfl rfl ?c1 ?c2 ?c3 ?c4 ?c5 ?_)
 case c1 =>
  intro j u hj
  match j, hj with
  | 0, hj => simp at hj; subst hj; simp [Addr.add]
 case c2 => intro u hu; simp at hu; subst hu; rfl
 case c3 => unfold maxLen; omega
 case c4 => omega
 case c5 => have := hb1.size; simp; omega
 intro v' w2 hown' hgrow _
 have hlt : b < w1.heap.size := by
  rcases Nat.lt_or_ge b w1.heap.size with h' | h'
  ·exact h'
  ·simp [Array.getElem?_eq_none h'] at hbk
 have hb2 : w2.heap[b]? = some (.cells #[.pointer (some ⟨b, 0, none⟩), v] 115 (0, 0)) := by
  rw [hgrow.block b (by simp; omega) (fun e => hne e.symm), Lib.alloc_old w1 _ b hlt]
  exact hbk
 have d0 : w2.cell? ⟨b, 0, none⟩ = some (.pointer (some ⟨b, 0, none⟩)) := by rw [Lib.cell_of_heap hb2]; rfl
 have d1 : w2.cell? ⟨b, 1, none⟩ = some v := by rw [Lib.cell_of_heap hb2]; rfl
 have f1 : w2.frozen? ⟨b, 1, none⟩ = false := Lib.frozen_of_heap hb2 1
 obtain ⟨g, cap, rfl⟩ : ∃ g cap, v' = .slice (some ⟨g, 0, none⟩) (bs.length + 1) cap := by
  rcases hown'.2 with ⟨_, h0⟩ | ⟨g, cap, cur, fz, hv, _⟩
  ·omega
  ·exact ⟨g, cap, hv⟩
 go_wp2
 go_ret
 refine ⟨rfl, ?_, ?_, ((hk1.alloc _).grown hgrow (Lib.ownsRowF_kind (hown.alloc _))).setCell ⟨b, 1, none⟩ rfl _⟩
 ·exact Lib.BuilderAtF.put (T := 115) (e := 5) hB hb2 (bs' := bs ++ [.int .u8 c]) (by simpa using hown') (by decide)
 ·exact ((hb1.alloc (by have := hb1.size; omega) _).grown hgrow (by have := hb1.size; simp; omega) (fun k hk => (hown.lt k hk).1)).setCell (p := ⟨b, 1, none⟩) hB _

end Go.Proofs.YtgoefeaopegdoaaGreatDoor

namespace Go.Proofs.YtgoefeaopegdoaaGreatDoor
open Go.RowKit

set_option maxHeartbeats 400000 in
theorem digit_any (c : Int) (w : World) :
  Calls Tryz.prog 197 #[.int .u8 c] w fun e w' => e = .returned (.bool (digitI c)) ∧ w = w' := by
 go_enter Tryz.func197, Tryz.ntmps197
 go_wp2
 all_goals
  go_ret
  exact ⟨ret_bool (by rw [Bool.eq_iff_iff]; simp [digitI]; omega), rfl⟩

set_option maxHeartbeats 1000000 in
theorem value16_any (c : Int) (w : World) (h0 : 0 ≤ c) (h1 : c ≤ 255) :
  Calls Tryz.prog 225 #[.int .u8 c] w fun e w' => e = .returned (.tuple #[.int .u8 (val16I c), .bool (is16I c)]) ∧ w = w' := by
 go_enter Tryz.func225, Tryz.ntmps225
 go_wp2
 all_goals
  go_ret2
  exact ⟨ret_ib (by simp [val16I]; omega) (by rw [Bool.eq_iff_iff]; simp [is16I, digitI]; omega), rfl⟩

end Go.Proofs.YtgoefeaopegdoaaGreatDoor

namespace Go.Proofs.YtgoefeaopegdoaaGreatDoor
open Go.RowKit

theorem indexA (c : Int) (w : World) : Calls Tryz.prog 228 #[.string ⟨#[47, 58, 59, 61, 64, 91, 92, 93, 124]⟩, .int .u8 c] w fun e w' => e = .returned (.int .i64 (idxA c)) ∧ w = w' := by
 refine (Tryz.strings_IndexByte _ _ _).mono ?_
 rintro e w' ⟨rfl, rfl⟩
 exact ⟨rfl, rfl⟩

theorem indexB (c : Int) (w : World) : Calls Tryz.prog 228 #[.string ⟨#[63, 94, 96, 123, 125]⟩, .int .u8 c] w fun e w' => e = .returned (.int .i64 (idxB c)) ∧ w = w' := by
 refine (Tryz.strings_IndexByte _ _ _).mono ?_
 rintro e w' ⟨rfl, rfl⟩
 exact ⟨rfl, rfl⟩

theorem indexC (c : Int) (w : World) : Calls Tryz.prog 228 #[.string ⟨#[32, 34, 60, 62]⟩, .int .u8 c] w fun e w' => e = .returned (.int .i64 (idxC c)) ∧ w = w' := by
 refine (Tryz.strings_IndexByte _ _ _).mono ?_
 rintro e w' ⟨rfl, rfl⟩
 exact ⟨rfl, rfl⟩

set_option maxHeartbeats 1000000 in
theorem inSet_1 (c : Int) (w : World) (h0 : 0 ≤ c) (h1 : c ≤ 255) :
  Calls Tryz.prog 274 #[.int .u8 c, .int .i64 1] w fun e w' => e = .returned (.bool (inSetI c 1)) ∧ w = w' := by
 have HA := hid (idxA_nonneg c h0 h1)
 have HB := hid (idxB_nonneg c h0 h1)
 have HC := hid (idxC_nonneg c h0 h1)
 go_enter Tryz.func274, Tryz.ntmps274
 go_wp2_with (first | (go_at_call_of 228 (Value.string ⟨#[47, 58, 59, 61, 64, 91, 92, 93, 124]⟩); refine (indexA _ _).mono ?_; rintro e w1 ⟨rfl, rfl⟩) | (go_at_call_of 228 (Value.string ⟨#[63, 94, 96, 123, 125]⟩); refine (indexB _ _).mono ?_; rintro e w1 ⟨rfl, rfl⟩) | (go_at_call_of 228 (Value.string ⟨#[32, 34, 60, 62]⟩); refine (indexC _ _).mono ?_; rintro e w1 ⟨rfl, rfl⟩))
 all_goals
  go_ret
  refine ⟨ret_bool ?_, rfl⟩
  have ha := HA.out; have hb := HB.out; have hc := HC.out
  try simp only [Bool.or_eq_true, Bool.and_eq_true, beq_iff_eq, decide_eq_true_eq, Bool.not_eq_true', decide_eq_false_iff_not, Bool.or_eq_false_iff, Bool.and_eq_false_iff, beq_eq_false_iff_ne, ne_eq] at *
  rw [Bool.eq_iff_iff, inSetI_iff]
  simp only [inSetP, Bool.or_eq_true, Bool.and_eq_true, beq_iff_eq, decide_eq_true_eq, Bool.false_eq_true, true_iff, false_iff, true_and, false_and, or_false, false_or]
  omega

set_option maxHeartbeats 1000000 in
theorem inSet_2 (c : Int) (w : World) (h0 : 0 ≤ c) (h1 : c ≤ 255) :
  Calls Tryz.prog 274 #[.int .u8 c, .int .i64 2] w fun e w' => e = .returned (.bool (inSetI c 2)) ∧ w = w' := by
 have HA := hid (idxA_nonneg c h0 h1)
 have HB := hid (idxB_nonneg c h0 h1)
 have HC := hid (idxC_nonneg c h0 h1)
 go_enter Tryz.func274, Tryz.ntmps274
 go_wp2_with (first | (go_at_call_of 228 (Value.string ⟨#[47, 58, 59, 61, 64, 91, 92, 93, 124]⟩); refine (indexA _ _).mono ?_; rintro e w1 ⟨rfl, rfl⟩) | (go_at_call_of 228 (Value.string ⟨#[63, 94, 96, 123, 125]⟩); refine (indexB _ _).mono ?_; rintro e w1 ⟨rfl, rfl⟩) | (go_at_call_of 228 (Value.string ⟨#[32, 34, 60, 62]⟩); refine (indexC _ _).mono ?_; rintro e w1 ⟨rfl, rfl⟩))
 all_goals
  go_ret
  refine ⟨ret_bool ?_, rfl⟩
  have ha := HA.out; have hb := HB.out; have hc := HC.out
  try simp only [Bool.or_eq_true, Bool.and_eq_true, beq_iff_eq, decide_eq_true_eq, Bool.not_eq_true', decide_eq_false_iff_not, Bool.or_eq_false_iff, Bool.and_eq_false_iff, beq_eq_false_iff_ne, ne_eq] at *
  rw [Bool.eq_iff_iff, inSetI_iff]
  simp only [inSetP, Bool.or_eq_true, Bool.and_eq_true, beq_iff_eq, decide_eq_true_eq, Bool.false_eq_true, true_iff, false_iff, true_and, false_and, or_false, false_or]
  omega

set_option maxHeartbeats 1000000 in
theorem inSet_3 (c : Int) (w : World) (h0 : 0 ≤ c) (h1 : c ≤ 255) :
  Calls Tryz.prog 274 #[.int .u8 c, .int .i64 3] w fun e w' => e = .returned (.bool (inSetI c 3)) ∧ w = w' := by
 have HA := hid (idxA_nonneg c h0 h1)
 have HB := hid (idxB_nonneg c h0 h1)
 have HC := hid (idxC_nonneg c h0 h1)
 go_enter Tryz.func274, Tryz.ntmps274
 go_wp2_with (first | (go_at_call_of 228 (Value.string ⟨#[47, 58, 59, 61, 64, 91, 92, 93, 124]⟩); refine (indexA _ _).mono ?_; rintro e w1 ⟨rfl, rfl⟩) | (go_at_call_of 228 (Value.string ⟨#[63, 94, 96, 123, 125]⟩); refine (indexB _ _).mono ?_; rintro e w1 ⟨rfl, rfl⟩) | (go_at_call_of 228 (Value.string ⟨#[32, 34, 60, 62]⟩); refine (indexC _ _).mono ?_; rintro e w1 ⟨rfl, rfl⟩))
 all_goals
  go_ret
  refine ⟨ret_bool ?_, rfl⟩
  have ha := HA.out; have hb := HB.out; have hc := HC.out
  try simp only [Bool.or_eq_true, Bool.and_eq_true, beq_iff_eq, decide_eq_true_eq, Bool.not_eq_true', decide_eq_false_iff_not, Bool.or_eq_false_iff, Bool.and_eq_false_iff, beq_eq_false_iff_ne, ne_eq] at *
  rw [Bool.eq_iff_iff, inSetI_iff]
  simp only [inSetP, Bool.or_eq_true, Bool.and_eq_true, beq_iff_eq, decide_eq_true_eq, Bool.false_eq_true, true_iff, false_iff, true_and, false_and, or_false, false_or]
  omega

set_option maxHeartbeats 1000000 in
theorem inSet_4 (c : Int) (w : World) (h0 : 0 ≤ c) (h1 : c ≤ 255) :
  Calls Tryz.prog 274 #[.int .u8 c, .int .i64 4] w fun e w' => e = .returned (.bool (inSetI c 4)) ∧ w = w' := by
 have HA := hid (idxA_nonneg c h0 h1)
 have HB := hid (idxB_nonneg c h0 h1)
 have HC := hid (idxC_nonneg c h0 h1)
 go_enter Tryz.func274, Tryz.ntmps274
 go_wp2_with (first | (go_at_call_of 228 (Value.string ⟨#[47, 58, 59, 61, 64, 91, 92, 93, 124]⟩); refine (indexA _ _).mono ?_; rintro e w1 ⟨rfl, rfl⟩) | (go_at_call_of 228 (Value.string ⟨#[63, 94, 96, 123, 125]⟩); refine (indexB _ _).mono ?_; rintro e w1 ⟨rfl, rfl⟩) | (go_at_call_of 228 (Value.string ⟨#[32, 34, 60, 62]⟩); refine (indexC _ _).mono ?_; rintro e w1 ⟨rfl, rfl⟩))
 all_goals
  go_ret
  refine ⟨ret_bool ?_, rfl⟩
  have ha := HA.out; have hb := HB.out; have hc := HC.out
  try simp only [Bool.or_eq_true, Bool.and_eq_true, beq_iff_eq, decide_eq_true_eq, Bool.not_eq_true', decide_eq_false_iff_not, Bool.or_eq_false_iff, Bool.and_eq_false_iff, beq_eq_false_iff_ne, ne_eq] at *
  rw [Bool.eq_iff_iff, inSetI_iff]
  simp only [inSetP, Bool.or_eq_true, Bool.and_eq_true, beq_iff_eq, decide_eq_true_eq, Bool.false_eq_true, true_iff, false_iff, true_and, false_and, or_false, false_or]
  omega

set_option maxHeartbeats 1000000 in
theorem inSet_5 (c : Int) (w : World) (h0 : 0 ≤ c) (h1 : c ≤ 255) :
  Calls Tryz.prog 274 #[.int .u8 c, .int .i64 5] w fun e w' => e = .returned (.bool (inSetI c 5)) ∧ w = w' := by
 have HA := hid (idxA_nonneg c h0 h1)
 have HB := hid (idxB_nonneg c h0 h1)
 have HC := hid (idxC_nonneg c h0 h1)
 go_enter Tryz.func274, Tryz.ntmps274
 go_wp2_with (first | (go_at_call_of 228 (Value.string ⟨#[47, 58, 59, 61, 64, 91, 92, 93, 124]⟩); refine (indexA _ _).mono ?_; rintro e w1 ⟨rfl, rfl⟩) | (go_at_call_of 228 (Value.string ⟨#[63, 94, 96, 123, 125]⟩); refine (indexB _ _).mono ?_; rintro e w1 ⟨rfl, rfl⟩) | (go_at_call_of 228 (Value.string ⟨#[32, 34, 60, 62]⟩); refine (indexC _ _).mono ?_; rintro e w1 ⟨rfl, rfl⟩))
 all_goals
  go_ret
  refine ⟨ret_bool ?_, rfl⟩
  have ha := HA.out; have hb := HB.out; have hc := HC.out
  try simp only [Bool.or_eq_true, Bool.and_eq_true, beq_iff_eq, decide_eq_true_eq, Bool.not_eq_true', decide_eq_false_iff_not, Bool.or_eq_false_iff, Bool.and_eq_false_iff, beq_eq_false_iff_ne, ne_eq] at *
  rw [Bool.eq_iff_iff, inSetI_iff]
  simp only [inSetP, Bool.or_eq_true, Bool.and_eq_true, beq_iff_eq, decide_eq_true_eq, Bool.false_eq_true, true_iff, false_iff, true_and, false_and, or_false, false_or]
  omega

set_option maxHeartbeats 1000000 in
theorem inSet_6 (c : Int) (w : World) (h0 : 0 ≤ c) (h1 : c ≤ 255) :
  Calls Tryz.prog 274 #[.int .u8 c, .int .i64 6] w fun e w' => e = .returned (.bool (inSetI c 6)) ∧ w = w' := by
 have HA := hid (idxA_nonneg c h0 h1)
 have HB := hid (idxB_nonneg c h0 h1)
 have HC := hid (idxC_nonneg c h0 h1)
 go_enter Tryz.func274, Tryz.ntmps274
 go_wp2_with (first | (go_at_call_of 228 (Value.string ⟨#[47, 58, 59, 61, 64, 91, 92, 93, 124]⟩); refine (indexA _ _).mono ?_; rintro e w1 ⟨rfl, rfl⟩) | (go_at_call_of 228 (Value.string ⟨#[63, 94, 96, 123, 125]⟩); refine (indexB _ _).mono ?_; rintro e w1 ⟨rfl, rfl⟩) | (go_at_call_of 228 (Value.string ⟨#[32, 34, 60, 62]⟩); refine (indexC _ _).mono ?_; rintro e w1 ⟨rfl, rfl⟩))
 all_goals
  go_ret
  refine ⟨ret_bool ?_, rfl⟩
  have ha := HA.out; have hb := HB.out; have hc := HC.out
  try simp only [Bool.or_eq_true, Bool.and_eq_true, beq_iff_eq, decide_eq_true_eq, Bool.not_eq_true', decide_eq_false_iff_not, Bool.or_eq_false_iff, Bool.and_eq_false_iff, beq_eq_false_iff_ne, ne_eq] at *
  rw [Bool.eq_iff_iff, inSetI_iff]
  simp only [inSetP, Bool.or_eq_true, Bool.and_eq_true, beq_iff_eq, decide_eq_true_eq, Bool.false_eq_true, true_iff, false_iff, true_and, false_and, or_false, false_or]
  omega

set_option maxHeartbeats 1000000 in
theorem inSet_none (c set : Int) (w : World) (hs : ¬ (1 ≤ set ∧ set ≤ 6)) :
  Calls Tryz.prog 274 #[.int .u8 c, .int .i64 set] w fun e w' => e = .returned (.bool (inSetI c set)) ∧ w = w' := by
 have h1 : (set == 1) = false := by simp; omega
 have h2 : (set == 2) = false := by simp; omega
 have h3 : (set == 3) = false := by simp; omega
 have h4 : (set == 4) = false := by simp; omega
 have h5 : (set == 5) = false := by simp; omega
 have h6 : (set == 6) = false := by simp; omega
 have HS := hid hs
 clear hs
 go_enter Tryz.func274, Tryz.ntmps274
 go_wp2
 go_ret
 refine ⟨ret_bool ?_, rfl⟩
 rw [Bool.eq_iff_iff, inSetI_iff]
 have := HS.out
 simp only [inSetP, Bool.false_eq_true, false_iff]
 omega

theorem inSet_any (c set : Int) (w : World) (h0 : 0 ≤ c) (h1 : c ≤ 255) :
  Calls Tryz.prog 274 #[.int .u8 c, .int .i64 set] w fun e w' => e = .returned (.bool (inSetI c set)) ∧ w = w' := by
 by_cases hs : 1 ≤ set ∧ set ≤ 6
 ·rcases (show set = 1 ∨ set = 2 ∨ set = 3 ∨ set = 4 ∨ set = 5 ∨ set = 6 from by omega) with rfl | rfl | rfl | rfl | rfl | rfl
  ·exact inSet_1 c w h0 h1
  ·exact inSet_2 c w h0 h1
  ·exact inSet_3 c w h0 h1
  ·exact inSet_4 c w h0 h1
  ·exact inSet_5 c w h0 h1
  ·exact inSet_6 c w h0 h1
 ·exact inSet_none c set w hs

end Go.Proofs.YtgoefeaopegdoaaGreatDoor

namespace Go.Proofs.YtgoefeaopegdoaaGreatDoor
open Go.RowKit

set_option maxHeartbeats 1000000 in
theorem percent_any (s : ByteArray) (set : Int) (w : World) (hs : s.size ≤ 35184372088832) :
  Calls Tryz.prog 247 #[.string s, .int .i64 set] w fun e w' => e = .returned (.string ⟨(pct set s.data.toList).toArray⟩) ∧ Below w.heap.size w w' := by
 go_enter Tryz.func247, Tryz.ntmps247
 go_wp2
 go_loopw [10] (fun i wr => ∃ k : Nat, k ≤ s.size ∧ i = .int .i64 k ∧ Lib.IsBuilderF 115 5 w.heap.size w.heap.size (Lib.byteCells (pct set (s.data.toList.take k))) wr ∧ Below w.heap.size w wr)
  (fun i _ => s.size - (intOf i).toNat)
 case atStart =>
  exact ⟨0, Nat.zero_le _, rfl, Lib.IsBuilderF.of (Lib.fresh_isBuilder 115 5 w), (Below.refl _ w).alloc (Nat.le_refl _) _⟩
 case round =>
  obtain ⟨k, hk, rfl, hI, hbw⟩ := hrel
  have hle := pct_le set (s.data.toList.take k)
  have htl : (s.data.toList.take k).length ≤ k := List.length_take_le _ _
  by_cases hlt : k < s.size
  ·have HT := hid (take_snoc s k hlt)
   have HP := hid (pct_snoc set (s.data.toList.take k) s[k])
   generalize pct set (s.data.toList.take k) = acc at *
   have hc8 : s[k].toNat < 256 := s[k].toNat_lt
   by_cases hin : inSetI (s[k].toNat : Int) set = true
   ·go_wp2_with (first | (go_at_call 274; refine (inSet_any _ _ _ (by omega) (by omega)).mono ?_; rintro e w' ⟨rfl, rfl⟩))
    refine (writeByte_k w.heap.size w.heap.size _ 37 _ hI (by rw [Lib.byteCells_length]; omega) hbw.size).mono ?_
    rintro e w1 ⟨rfl, h1, b1, _⟩
    go_wp2_with fail
    rw [hexD_at]
    refine (writeByte_k w.heap.size w.heap.size _ _ _ (.inr h1) (by rw [List.length_append, Lib.byteCells_length]; simp; omega) (by have := hbw.size; have := b1.size; omega)).mono ?_
    rintro e w2 ⟨rfl, h2, b2, _⟩
    have ha := and15 s[k].toNat hc8
    go_wp2_with fail
    rw [hexD_at]
    refine (writeByte_k w.heap.size w.heap.size _ _ _ (.inr h2) (by rw [List.length_append, List.length_append, Lib.byteCells_length]; simp; omega) (by have := hbw.size; have := b1.size; have := b2.size; omega)).mono ?_
    rintro e w3 ⟨rfl, h3, b3, _⟩
    go_wp2
    go_roundw
    case rel =>
     refine ⟨k + 1, by omega, by go_num, ?_, ((hbw.trans b1).trans b2).trans b3⟩
     rw [HT.out, HP.out, pct1, hin, Lib.byteCells_append]
     refine .inr ?_
     have e3 : Lib.byteCells (esc s[k]) = [.int .u8 37] ++ [.int .u8 (hexD (s[k].toNat / 16)).toNat] ++ [.int .u8 (hexD (s[k].toNat % 16)).toNat] := rfl
     rw [if_pos rfl, e3]
     simpa using h3
    case measure => simp [intOf]; omega
   ·have hin' : inSetI (s[k].toNat : Int) set = false := by simpa using hin
    clear hin
    go_wp2_with (first | (go_at_call 274; refine (inSet_any _ _ _ (by omega) (by omega)).mono ?_; rintro e w' ⟨rfl, rfl⟩))
    refine (writeByte_k w.heap.size w.heap.size _ _ _ hI (by rw [Lib.byteCells_length]; omega) hbw.size).mono ?_
    rintro e w1 ⟨rfl, h1, b1, _⟩
    go_wp2
    go_roundw
    case rel =>
     refine ⟨k + 1, by omega, by go_num, ?_, hbw.trans b1⟩
     rw [HT.out, HP.out, pct1, hin', Lib.byteCells_append]
     exact .inr h1
    case measure => simp [intOf]; omega
  ·rw [take_all s k hlt] at hI
   go_wp2_with (go_at_call 83; refine (Tryz.Builder_String_any_k w.heap.size w.heap.size _ _ hI hbw.size).mono ?_)
   rintro e w1 ⟨rfl, _, b1, _⟩
   go_wp2
   go_ret
   exact ⟨rfl, hbw.trans b1⟩

end Go.Proofs.YtgoefeaopegdoaaGreatDoor

namespace Go.Proofs.YtgoefeaopegdoaaGreatDoor
open Go.RowKit

set_option maxHeartbeats 400000 in
theorem isForbidden_any (c : UInt8) (w : World) :
  Calls Tryz.prog 339 #[.int .u8 c.toNat] w fun e w' => e = .returned (.bool (forb c)) ∧ w = w' := by
 have e1 : ((c.toNat : Int)).toNat.toUInt8 = c := by simp
 have HE := hid e1
 clear e1
 have HF := hid (show forb c = decide (0 ≤ Lib.indexByte forbL c) from rfl)
 go_enter Tryz.func339, Tryz.ntmps339
 go_wp2_with (go_at_call 228; refine (Tryz.strings_IndexByte _ _ _).mono ?_; rintro e w' ⟨rfl, rfl⟩; rw [HE.out, show (⟨#[0, 9, 10, 13, 32, 35, 47, 58, 60, 62, 63, 64, 91, 92, 93, 94, 124]⟩ : ByteArray).data.toList = forbL from rfl])
 go_ret
 rw [HF.out]
 exact ⟨rfl, rfl⟩

theorem all_at {p : UInt8 → Bool} (s : ByteArray) (k : Nat) (h : k < s.size) (hp : p s[k] = false) : s.data.toList.all p = false := by
 rw [List.all_eq_false]
 refine ⟨s[k], ?_, by simp [hp]⟩
 have : s[k] = s.data.toList[k]'(by simpa using h) := rfl
 rw [this]; exact List.getElem_mem _

theorem any_at {p : UInt8 → Bool} (s : ByteArray) (k : Nat) (h : k < s.size) (hp : p s[k] = true) : s.data.toList.any p = true := by
 rw [List.any_eq_true]
 refine ⟨s[k], ?_, hp⟩
 have : s[k] = s.data.toList[k]'(by simpa using h) := rfl
 rw [this]; exact List.getElem_mem _

set_option maxHeartbeats 1000000 in
theorem nameBytes_any (s : ByteArray) (w : World) (hs : s.size ≤ 4000000000) :
  Calls Tryz.prog 334 #[.string s] w fun e w' => e = .returned (.bool (allN s.data.toList)) ∧ w = w' := by
 go_enter Tryz.func334, Tryz.ntmps334
 go_wp2
 go_loop [7] (fun i => ∃ k : Nat, k ≤ s.size ∧ i = .int .i64 k ∧ allN (s.data.toList.take k) = true) (fun i => s.size - (intOf i).toNat)
 case atStart => exact ⟨0, Nat.zero_le _, rfl, rfl⟩
 case round =>
  obtain ⟨k, hk, rfl, hall⟩ := hrel
  have HA := hid hall
  clear hall
  by_cases hlt : k < s.size
  ·have HT := hid (take_snoc s k hlt)
   have hc8 : s[k].toNat < 256 := s[k].toNat_lt
   by_cases hb : nameB s[k] = true
   ·have hb2 := hb
    simp only [nameB, Bool.not_eq_true', Bool.or_eq_false_iff, decide_eq_false_iff_not, beq_eq_false_iff_ne] at hb2
    obtain ⟨h1, h2, h3, h4⟩ := hb2
    have h1' : (33 : Int) ≤ (s[k].toNat : Int) := by omega
    have h2' : (s[k].toNat : Int) ≤ 126 := by omega
    have h3' : ((s[k].toNat : Int) == 37) = false := by
     rw [beq_eq_false_iff_ne]
     intro e; apply h3
     exact UInt8.toNat_inj.1 (by have : (37 : UInt8).toNat = 37 := rfl; omega)
    have HB := hid hb
    clear hb h1 h2 h3
    go_wp2_with (go_at_call 339; refine (isForbidden_any _ _).mono ?_; rintro e w' ⟨rfl, rfl⟩; rw [h4])
    go_round
    case rel => exact ⟨k + 1, by omega, by go_num, by rw [HT.out, allN, List.all_append, show List.all _ nameB = true from HA.out]; simp [HB.out]⟩
    case measure => simp [intOf]; omega
   ·have hb' : nameB s[k] = false := by simpa using hb
    have HN := hid (show allN s.data.toList = false from all_at s k hlt hb')
    have hb2 := hb'
    simp only [nameB, Bool.not_eq_false', Bool.or_eq_true, decide_eq_true_eq, beq_iff_eq] at hb2
    clear hb hb'
    by_cases h1 : s[k].toNat < 33
    ·have h1' : (s[k].toNat : Int) < 33 := by omega
     clear hb2
     go_wp2_with (go_at_call 339; refine (isForbidden_any _ _).mono ?_; rintro e w' ⟨rfl, rfl⟩)
     go_ret
     rw [HN.out]
     exact ⟨rfl, rfl⟩
    ·have h1' : (33 : Int) ≤ (s[k].toNat : Int) := by omega
     by_cases h2 : 126 < s[k].toNat
     ·have h2' : (126 : Int) < (s[k].toNat : Int) := by omega
      clear hb2
      go_wp2_with (go_at_call 339; refine (isForbidden_any _ _).mono ?_; rintro e w' ⟨rfl, rfl⟩)
      go_ret
      rw [HN.out]
      exact ⟨rfl, rfl⟩
     ·have h2' : (s[k].toNat : Int) ≤ 126 := by omega
      by_cases h3 : s[k] = 37
      ·have h3' : (s[k].toNat : Int) = 37 := by rw [h3]; rfl
       clear hb2 h3
       go_wp2_with (go_at_call 339; refine (isForbidden_any _ _).mono ?_; rintro e w' ⟨rfl, rfl⟩)
       go_ret
       rw [HN.out]
       exact ⟨rfl, rfl⟩
      ·have h4 : forb s[k] = true := by
        rcases hb2 with h | h | h | h
        ·exact absurd h h1
        ·exact absurd h h2
        ·exact absurd h h3
        ·exact h
       have h3' : ((s[k].toNat : Int) == 37) = false := by
        rw [beq_eq_false_iff_ne]
        intro e; apply h3
        exact UInt8.toNat_inj.1 (by have : (37 : UInt8).toNat = 37 := rfl; omega)
       clear hb2 h3
       go_wp2_with (go_at_call 339; refine (isForbidden_any _ _).mono ?_; rintro e w' ⟨rfl, rfl⟩; rw [h4])
       go_ret
       rw [HN.out]
       exact ⟨rfl, rfl⟩
  ·have ha := HA.out
   rw [take_all s k hlt] at ha
   have HN := hid ha
   clear ha
   go_wp2
   go_ret
   rw [HN.out]
   exact ⟨rfl, rfl⟩

set_option maxHeartbeats 400000 in
theorem coded_any (s : ByteArray) (w : World) (hg : Gd w) (hs : s.size ≤ 4000000000) :
  Calls Tryz.prog 335 #[.string s] w fun e w' => e = .returned (.bool (coded s.data.toList)) ∧ w = w' := by
 have HC := hid (show coded s.data.toList = (Lib.hasPrefix s.data.toList [120, 110, 45, 45] || Lib.contains s.data.toList [46, 120, 110, 45, 45]) from rfl)
 have HG := hid hg
 clear hg
 by_cases h1 : Lib.hasPrefix s.data.toList [120, 110, 45, 45] = true
 ·go_enter Tryz.func335, Tryz.ntmps335
  go_wp2_with (first | (go_at_call 104; refine (hasPrefix_any _ _ _).mono ?_; rintro e w' ⟨rfl, rfl⟩) | (go_at_call 355; refine (contains_any _ _ _ HG.out hs).mono ?_; rintro e w' ⟨rfl, rfl⟩))
  go_ret
  rw [HC.out, h1]
  exact ⟨rfl, rfl⟩
 ·have h1' : Lib.hasPrefix s.data.toList [120, 110, 45, 45] = false := by simpa using h1
  clear h1
  go_enter Tryz.func335, Tryz.ntmps335
  go_wp2_with (first | (go_at_call 104; refine (hasPrefix_any _ _ _).mono ?_; rintro e w' ⟨rfl, rfl⟩) | (go_at_call 355; refine (contains_any _ _ _ HG.out hs).mono ?_; rintro e w' ⟨rfl, rfl⟩))
  go_ret
  rw [HC.out, h1']
  exact ⟨rfl, rfl⟩

theorem ret_se {a b : ByteArray} {x y : Int} (h : a = b) (g : x = y) : Ending.returned (.tuple #[.string a, .int .i64 x]) = .returned (.tuple #[.string b, .int .i64 y]) := by rw [h, g]

theorem txt_none {o : Option (List UInt8)} (h : o = none) : (⟨#[]⟩ : ByteArray) = ⟨(o.getD []).toArray⟩ := by rw [h]; rfl

theorem txt_some {o : Option (List UInt8)} {l : List UInt8} (h : o = some l) : (⟨l.toArray⟩ : ByteArray) = ⟨(o.getD []).toArray⟩ := by rw [h]; rfl

set_option maxHeartbeats 1000000 in
theorem parseOther_any (s : ByteArray) (w : World) (hs : s.size ≤ 4000000000) :
  Calls Tryz.prog 316 #[.string s] w fun e w' => e = .returned (.tuple #[.string ⟨((otherV s.data.toList).getD []).toArray⟩, .int .i64 (er (otherV s.data.toList))]) ∧ Below w.heap.size w w' := by
 go_enter Tryz.func316, Tryz.ntmps316
 go_wp2
 go_loop [7] (fun i => ∃ k : Nat, k ≤ s.size ∧ i = .int .i64 k ∧ (s.data.toList.take k).any forb = false) (fun i => s.size - (intOf i).toNat)
 case atStart => exact ⟨0, Nat.zero_le _, rfl, rfl⟩
 case round =>
  obtain ⟨k, hk, rfl, hall⟩ := hrel
  have HA := hid hall
  clear hall
  by_cases hlt : k < s.size
  ·have HT := hid (take_snoc s k hlt)
   by_cases hb : forb s[k] = true
   ·have HN := hid (show otherV s.data.toList = none by rw [otherV, if_pos (any_at s k hlt hb)])
    go_wp2_with (go_at_call 339; refine (isForbidden_any _ _).mono ?_; rintro e w' ⟨rfl, rfl⟩; rw [hb])
    go_ret2
    exact ⟨ret_se (txt_none HN.out) (er_none HN.out).symm, Below.refl _ _⟩
   ·have hb' : forb s[k] = false := by simpa using hb
    clear hb
    go_wp2_with (go_at_call 339; refine (isForbidden_any _ _).mono ?_; rintro e w' ⟨rfl, rfl⟩; rw [hb'])
    go_round
    case rel => exact ⟨k + 1, by omega, by go_num, by rw [HT.out, List.any_append, HA.out]; simp [hb']⟩
    case measure => simp [intOf]; omega
  ·have ha := HA.out
   rw [take_all s k hlt] at ha
   have HN := hid (show otherV s.data.toList = some (pct 1 s.data.toList) by rw [otherV, ha]; rfl)
   clear ha
   go_wp2_with (go_at_call 247; refine (percent_any _ _ _ (by omega)).mono ?_; rintro e w1 ⟨rfl, hb1⟩)
   go_ret2
   exact ⟨ret_se (txt_some HN.out) (er_some HN.out).symm, hb1⟩

theorem nameV_bad {l : List UInt8} (h : l = [] ∨ allN l = false ∨ coded l = true) : nameV l = none := by rw [nameV, if_pos h]

theorem nameV_name {l : List UInt8} (h0 : l ≠ []) (h1 : allN l = true) (h2 : coded l = false) (h3 : numberedV l = false) : nameV l = some l := by simp [nameV, h0, h1, h2, h3]

theorem nameV_num {l : List UInt8} (h0 : l ≠ []) (h1 : allN l = true) (h2 : coded l = false) (h3 : numberedV l = true) : nameV l = (fourV l).map text4 := by simp [nameV, h0, h1, h2, h3]

theorem fourN_lt : ∀ (r h : Nat) (l : List UInt8) (n : Nat), r ≤ 4 → h < 2 ^ (8 * (4 - r)) → fourN r h l = some n → n < 4294967296
 | 0, _, _, _, _, _, e => by cases e
 | r + 1, h, l, n, hr, hh, e => by
  have ep : 2 ^ (8 * (4 - (r + 1))) * 2 ^ (8 * (r + 1)) = 4294967296 := by
   rw [← Nat.pow_add, show 8 * (4 - (r + 1)) + 8 * (r + 1) = 32 by omega]
  rw [fourN] at e
  split at e
  ·cases e
  ·split at e
   ·split at e
    ·cases e
    ·refine fourN_lt r _ _ n (by omega) ?_ e
     have e2 : 8 * (4 - r) = 8 * (4 - (r + 1)) + 8 := by omega
     rw [e2, Nat.pow_add]
     omega
   ·split at e
    ·rename_i m _ _ hm
     cases e
     have h1 : (h + 1) * 2 ^ (8 * (r + 1)) ≤ 2 ^ (8 * (4 - (r + 1))) * 2 ^ (8 * (r + 1)) := Nat.mul_le_mul_right _ hh
     rw [ep, Nat.add_mul, Nat.one_mul] at h1
     omega
    ·cases e

theorem fourV_lt {l : List UInt8} {n : Nat} (h : fourV l = some n) : n < 4294967296 := fourN_lt 4 0 _ n (by omega) (by decide) h

set_option maxHeartbeats 1000000 in
theorem parseName_any (s : ByteArray) (w : World) (hg : Gd w) (hs : s.size ≤ 4000000000) :
  Calls Tryz.prog 315 #[.string s] w fun e w' => e = .returned (.tuple #[.string ⟨((nameV s.data.toList).getD []).toArray⟩, .int .i64 (er (nameV s.data.toList))]) ∧ Below w.heap.size w w' := by
 have HG := hid hg
 clear hg
 by_cases h0 : s.data.toList = []
 ·have HN := hid (nameV_bad (l := s.data.toList) (.inl h0))
  have he := empty_yes s h0
  clear h0
  go_enter Tryz.func315, Tryz.ntmps315
  go_wp2_with (first | (go_at_call 334; refine (nameBytes_any _ _ hs).mono ?_; rintro e w' ⟨rfl, rfl⟩))
  go_ret2
  exact ⟨ret_se (txt_none HN.out) (er_none HN.out).symm, Below.refl _ _⟩
 ·have he := empty_no s h0
  have H0 := hid h0
  clear h0
  by_cases h1 : allN s.data.toList = true
  ·by_cases h2 : coded s.data.toList = true
   ·have HN := hid (nameV_bad (l := s.data.toList) (.inr (.inr h2)))
    go_enter Tryz.func315, Tryz.ntmps315
    go_wp2_with (first | (go_at_call 334; refine (nameBytes_any _ _ hs).mono ?_; rintro e w' ⟨rfl, rfl⟩; rw [h1]) | (go_at_call 335; refine (coded_any _ _ HG.out hs).mono ?_; rintro e w' ⟨rfl, rfl⟩; rw [h2]))
    go_ret2
    exact ⟨ret_se (txt_none HN.out) (er_none HN.out).symm, Below.refl _ _⟩
   ·have h2' : coded s.data.toList = false := by simpa using h2
    clear h2
    by_cases h3 : numberedV s.data.toList = true
    ·cases h4 : fourV s.data.toList with
     | none =>
      have HN := hid (show nameV s.data.toList = none by rw [nameV_num H0.out h1 h2' h3, h4]; rfl)
      have e4 := er_none h4
      clear h4
      go_enter Tryz.func315, Tryz.ntmps315
      go_wp2_with (first | (go_at_call 334; refine (nameBytes_any _ _ hs).mono ?_; rintro e w' ⟨rfl, rfl⟩; rw [h1]) | (go_at_call 335; refine (coded_any _ _ HG.out hs).mono ?_; rintro e w' ⟨rfl, rfl⟩; rw [h2']) | (go_at_call 336; refine (numbered_any _ _ hs).mono ?_; rintro e w' ⟨rfl, rfl⟩; rw [h3]) | (go_at_call 337; refine (four_any _ _ HG.out hs).mono ?_; rintro e w1 ⟨rfl, hb1⟩; rw [e4]))
      go_ret2
      exact ⟨ret_se (txt_none HN.out) (er_none HN.out).symm, hb1⟩
     | some n =>
      have HN := hid (show nameV s.data.toList = some (text4 n) by rw [nameV_num H0.out h1 h2' h3, h4]; rfl)
      have e4 := er_some h4
      have g4 := getD_some h4
      have hn := fourV_lt h4
      clear h4
      go_enter Tryz.func315, Tryz.ntmps315
      go_wp2_with (first | (go_at_call 334; refine (nameBytes_any _ _ hs).mono ?_; rintro e w' ⟨rfl, rfl⟩; rw [h1]) | (go_at_call 335; refine (coded_any _ _ HG.out hs).mono ?_; rintro e w' ⟨rfl, rfl⟩; rw [h2']) | (go_at_call 336; refine (numbered_any _ _ hs).mono ?_; rintro e w' ⟨rfl, rfl⟩; rw [h3]) | (go_at_call 337; refine (four_any _ _ HG.out hs).mono ?_; rintro e w1 ⟨rfl, hb1⟩; rw [e4, g4]) | (go_at_call 338; refine (text4_any _ _ (HG.out.kept hb1) hn).mono ?_; rintro e w2 ⟨rfl, hb2⟩))
      go_ret2
      exact ⟨ret_se (txt_some HN.out) (er_some HN.out).symm, below2 hb1 hb2⟩
    ·have h3' : numberedV s.data.toList = false := by simpa using h3
     clear h3
     have HN := hid (nameV_name H0.out h1 h2' h3')
     go_enter Tryz.func315, Tryz.ntmps315
     go_wp2_with (first | (go_at_call 334; refine (nameBytes_any _ _ hs).mono ?_; rintro e w' ⟨rfl, rfl⟩; rw [h1]) | (go_at_call 335; refine (coded_any _ _ HG.out hs).mono ?_; rintro e w' ⟨rfl, rfl⟩; rw [h2']) | (go_at_call 336; refine (numbered_any _ _ hs).mono ?_; rintro e w' ⟨rfl, rfl⟩; rw [h3']))
     go_ret2
     exact ⟨ret_se (by rw [HN.out]; exact (Lib.mk_data s).symm) (er_some HN.out).symm, Below.refl _ _⟩
  ·have h1' : allN s.data.toList = false := by simpa using h1
   clear h1
   have HN := hid (nameV_bad (l := s.data.toList) (.inr (.inl h1')))
   go_enter Tryz.func315, Tryz.ntmps315
   go_wp2_with (first | (go_at_call 334; refine (nameBytes_any _ _ hs).mono ?_; rintro e w' ⟨rfl, rfl⟩; rw [h1']))
   go_ret2
   exact ⟨ret_se (txt_none HN.out) (er_none HN.out).symm, Below.refl _ _⟩

end Go.Proofs.YtgoefeaopegdoaaGreatDoor
