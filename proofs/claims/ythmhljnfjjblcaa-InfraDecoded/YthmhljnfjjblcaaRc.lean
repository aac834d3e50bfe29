/-
  The walk of ostiaryref1.Decode.
-/
import Derived.Test.YthmhljnfjjblcaaWm
set_option linter.unusedSimpArgs false
set_option linter.unusedVariables false
namespace Go.Proofs.Ythmhljnfjjblcaa
open Go.RowKit

theorem enc_eq (r : Int) : (Utf8.encode r).data.toList = Lib.encodeRune r := by
  unfold Utf8.encode Lib.encodeRune Utf8.valid Utf8.runeError
  by_cases h1 : 0 ≤ r ∧ r ≤ 127
  · rw [Lib.encodeRuneZ_one h1.1 h1.2]
    have hv : ((decide (0 ≤ r) && decide (r < 0xD800)) || (decide (0xE000 ≤ r) && decide (r ≤ 0x10FFFF))) = true := by simp; omega
    simp only [hv, if_true]
    rw [if_pos (by omega)]
    rfl
  by_cases h2 : 128 ≤ r ∧ r ≤ 2047
  · rw [Lib.encodeRuneZ_two h2.1 h2.2]
    have hv : ((decide (0 ≤ r) && decide (r < 0xD800)) || (decide (0xE000 ≤ r) && decide (r ≤ 0x10FFFF))) = true := by simp; omega
    simp only [hv, if_true]
    rw [if_neg (by omega), if_pos (by omega)]
    have a1 : (192 + r / 64).toNat = 192 + r.toNat / 64 := by omega
    have a2 : (128 + r % 64).toNat = 128 + r.toNat % 64 := by omega
    simp only [List.map_cons, List.map_nil, a1, a2]
    try rfl
  by_cases h3 : (2048 ≤ r ∧ r < 55296) ∨ (57343 < r ∧ r ≤ 65535)
  · rw [Lib.encodeRuneZ_three h3]
    have hv : ((decide (0 ≤ r) && decide (r < 0xD800)) || (decide (0xE000 ≤ r) && decide (r ≤ 0x10FFFF))) = true := by simp; omega
    simp only [hv, if_true]
    rw [if_neg (by omega), if_neg (by omega), if_pos (by omega)]
    have a1 : (224 + r / 4096).toNat = 224 + r.toNat / 4096 := by omega
    have a2 : (128 + r / 64 % 64).toNat = 128 + r.toNat / 64 % 64 := by omega
    have a3 : (128 + r % 64).toNat = 128 + r.toNat % 64 := by omega
    simp only [List.map_cons, List.map_nil, a1, a2, a3]
    try rfl
  by_cases h4 : 65536 ≤ r ∧ r ≤ 1114111
  · rw [Lib.encodeRuneZ_four h4.1 h4.2]
    have hv : ((decide (0 ≤ r) && decide (r < 0xD800)) || (decide (0xE000 ≤ r) && decide (r ≤ 0x10FFFF))) = true := by simp; omega
    simp only [hv, if_true]
    rw [if_neg (by omega), if_neg (by omega), if_neg (by omega)]
    have a1 : (240 + r / 262144).toNat = 240 + r.toNat / 262144 := by omega
    have a2 : (128 + r / 4096 % 64).toNat = 128 + r.toNat / 4096 % 64 := by omega
    have a3 : (128 + r / 64 % 64).toNat = 128 + r.toNat / 64 % 64 := by omega
    have a4 : (128 + r % 64).toNat = 128 + r.toNat % 64 := by omega
    simp only [List.map_cons, List.map_nil, a1, a2, a3, a4]
    try rfl
  · rw [Lib.encodeRuneZ_bad (by omega)]
    have hv : ((decide (0 ≤ r) && decide (r < 0xD800)) || (decide (0xE000 ≤ r) && decide (r ≤ 0x10FFFF))) = false := by simp; omega
    simp only [hv, Bool.false_eq_true, if_false]
    rfl

theorem enc_size (r : Int) : (Utf8.encode r).size ≤ 4 := by
  have h1 := Lib.runeCells_le r
  rw [Lib.runeCells_length, ← enc_eq, ← Lib.size_eq] at h1
  exact h1.2

theorem bom_list : (ByteArray.mk #[239, 187, 191]).toList = [239, 187, 191] := by rw [Lib.toList_data]
theorem bom_size : (ByteArray.mk #[239, 187, 191]).size = 3 := rfl

set_option maxHeartbeats 1000000 in
set_option maxRecDepth 100000 in
theorem rdecode_any (v : Value) (l : List UInt8) (w : World) (hv : SlB w v l) (hs : l.length ≤ 1000000) :
    Calls Try.prog 24 #[v] w fun e w' => e = .returned (.string ⟨(dec l).toArray⟩) ∧ Below w.heap.size w w' := by
  have hcv := hv.string (P := Try.prog) (src := 22) (dst := 9) Try.underlying22 Try.underlying5 Try.underlying9
  obtain ⟨s, hse⟩ : ∃ s : ByteArray, s = ⟨l.toArray⟩ := ⟨_, rfl⟩
  rw [← hse] at hcv
  have hsl : s.data.toList = l := by rw [hse]
  have hss : s.size ≤ 1000000 := by rw [Lib.size_eq, hsl]; exact hs
  clear hse
  by_cases h3 : s.size < 3
  · have h3' : (s.size : Int) < 3 := by omega
    have HD : Hid (dec l = recode s) := by
      have := Lib.trimPrefix_miss s ⟨#[239, 187, 191]⟩ (by rw [bom_size]; simp; omega)
      unfold dec
      rw [← hsl]
      exact hid (congrArg recode this)
    clear hsl
    go_enter Try.func24, Try.ntmps24
    obtain ⟨t, ht⟩ : ∃ t, t = s := ⟨_, rfl⟩
    subst ht
    skip
    go_wp2
    go_loopw [4] (fun os wr => ∃ (pos fuel : Nat) (o : ByteArray), os = .string o ∧ wr.heap[w.heap.size]? = some (.stringIter t pos) ∧ Below w.heap.size w wr ∧ o.data.toList ++ recFrom t fuel pos = recode t ∧ t.size ≤ pos + fuel ∧ o.size ≤ 4 * pos) (fun _ wr => t.size - wr.iterPos w.heap.size)
    case atStart =>
      refine ⟨0, t.size, ⟨#[]⟩, rfl, ?_, (Below.refl _ w).alloc (Nat.le_refl _) _, rfl, by omega, by decide⟩
      exact World.iter_heap w t 0
    case round =>
      obtain ⟨pos, fuel, o, rfl, hit, hbw, hacc, hfu, hal⟩ := hrel
      have hszw : w.heap.size < wr.heap.size := (Array.getElem?_eq_some_iff.1 hit).1
      by_cases hp : pos < t.size
      · have hnx : ∀ ty, (Instr.next (.pointer (some ⟨w.heap.size, 0, none⟩)) true ty).run Try.prog wr = _ := fun ty => Lib.run_next_any_at wr w.heap.size t pos ty hit hp
        have hwd := width_pos t pos hp
        have hit2 := Lib.iterAt_heap wr w.heap.size t pos (pos + (Utf8.decode t pos).2) hit
        have hbw2 := Lib.below_iterAt hbw (k := w.heap.size) (Nat.le_refl _) t (pos + (Utf8.decode t pos).2)
        obtain ⟨f, rfl⟩ : ∃ f, fuel = f + 1 := ⟨fuel - 1, by omega⟩
        have hes := enc_size ((Utf8.decode t pos).1 : Int)
        have HACC := hid hacc
        clear hacc
        go_wp2
        go_roundw
        case rel =>
          refine ⟨pos + (Utf8.decode t pos).2, f, _, rfl, hit2, hbw2, ?_, by omega, ?_⟩
          · rw [ByteArray.data_append, Array.toList_append, enc_eq, ← HACC.out]; simp [recFrom, hp]
          · simp; omega
        case measure =>
          simp only [World.iterPos, hit2, hit]
          omega
      · have hnx : ∀ ty, (Instr.next (.pointer (some ⟨w.heap.size, 0, none⟩)) true ty).run Try.prog wr = _ := fun ty => Lib.run_next_end_at wr w.heap.size t pos ty hit hp
        rw [recFrom_end t fuel pos hp, List.append_nil] at hacc
        have HACC := hid hacc
        clear hacc
        go_wp2
        go_ret
        refine ⟨?_, hbw⟩
        rw [HD.out, ← HACC.out, Lib.mk_data]; rfl
  · have h3' : (3 : Int) ≤ (s.size : Int) := by omega
    by_cases hb : ((s.extract 0 3).toList == [239, 187, 191]) = true
    · obtain ⟨t, ht⟩ : ∃ t, t = s.extract 3 s.size := ⟨_, rfl⟩
      have HD : Hid (dec l = recode t) := by
        have := Lib.trimPrefix_hit s ⟨#[239, 187, 191]⟩ (by rw [bom_size]; omega) (by rw [bom_size, bom_list]; exact hb)
        unfold dec
        rw [← hsl, ht]
        exact hid (congrArg recode this)
      have hts : t.size ≤ 1000000 := by rw [ht]; simp; omega
      clear hsl
      have ht2 := ht.symm
      clear ht
      go_enter Try.func24, Try.ntmps24
      go_wp2
      go_loopw [4] (fun os wr => ∃ (pos fuel : Nat) (o : ByteArray), os = .string o ∧ wr.heap[w.heap.size]? = some (.stringIter t pos) ∧ Below w.heap.size w wr ∧ o.data.toList ++ recFrom t fuel pos = recode t ∧ t.size ≤ pos + fuel ∧ o.size ≤ 4 * pos) (fun _ wr => t.size - wr.iterPos w.heap.size)
      case atStart =>
        refine ⟨0, t.size, ⟨#[]⟩, rfl, ?_, (Below.refl _ w).alloc (Nat.le_refl _) _, rfl, by omega, by decide⟩
        exact World.iter_heap w t 0
      case round =>
        obtain ⟨pos, fuel, o, rfl, hit, hbw, hacc, hfu, hal⟩ := hrel
        have hszw : w.heap.size < wr.heap.size := (Array.getElem?_eq_some_iff.1 hit).1
        by_cases hp : pos < t.size
        · have hnx : ∀ ty, (Instr.next (.pointer (some ⟨w.heap.size, 0, none⟩)) true ty).run Try.prog wr = _ := fun ty => Lib.run_next_any_at wr w.heap.size t pos ty hit hp
          have hwd := width_pos t pos hp
          have hit2 := Lib.iterAt_heap wr w.heap.size t pos (pos + (Utf8.decode t pos).2) hit
          have hbw2 := Lib.below_iterAt hbw (k := w.heap.size) (Nat.le_refl _) t (pos + (Utf8.decode t pos).2)
          obtain ⟨f, rfl⟩ : ∃ f, fuel = f + 1 := ⟨fuel - 1, by omega⟩
          have hes := enc_size ((Utf8.decode t pos).1 : Int)
          have HACC := hid hacc
          clear hacc
          go_wp2
          go_roundw
          case rel =>
            refine ⟨pos + (Utf8.decode t pos).2, f, _, rfl, hit2, hbw2, ?_, by omega, ?_⟩
            · rw [ByteArray.data_append, Array.toList_append, enc_eq, ← HACC.out]; simp [recFrom, hp]
            · simp; omega
          case measure =>
            simp only [World.iterPos, hit2, hit]
            omega
        · have hnx : ∀ ty, (Instr.next (.pointer (some ⟨w.heap.size, 0, none⟩)) true ty).run Try.prog wr = _ := fun ty => Lib.run_next_end_at wr w.heap.size t pos ty hit hp
          rw [recFrom_end t fuel pos hp, List.append_nil] at hacc
          have HACC := hid hacc
          clear hacc
          go_wp2
          go_ret
          refine ⟨?_, hbw⟩
          rw [HD.out, ← HACC.out, Lib.mk_data]; rfl
    · have hb' : ((s.extract 0 3).toList == [239, 187, 191]) = false := by simpa using hb
      clear hb
      have HD : Hid (dec l = recode s) := by
        have := Lib.trimPrefix_miss s ⟨#[239, 187, 191]⟩ (by rw [bom_size, Bool.and_eq_false_iff]; right; rw [bom_list]; exact hb')
        unfold dec
        rw [← hsl]
        exact hid (congrArg recode this)
      clear hsl
      go_enter Try.func24, Try.ntmps24
      obtain ⟨t, ht⟩ : ∃ t, t = s := ⟨_, rfl⟩
      subst ht
      go_wp2
      go_loopw [4] (fun os wr => ∃ (pos fuel : Nat) (o : ByteArray), os = .string o ∧ wr.heap[w.heap.size]? = some (.stringIter t pos) ∧ Below w.heap.size w wr ∧ o.data.toList ++ recFrom t fuel pos = recode t ∧ t.size ≤ pos + fuel ∧ o.size ≤ 4 * pos) (fun _ wr => t.size - wr.iterPos w.heap.size)
      case atStart =>
        refine ⟨0, t.size, ⟨#[]⟩, rfl, ?_, (Below.refl _ w).alloc (Nat.le_refl _) _, rfl, by omega, by decide⟩
        exact World.iter_heap w t 0
      case round =>
        obtain ⟨pos, fuel, o, rfl, hit, hbw, hacc, hfu, hal⟩ := hrel
        have hszw : w.heap.size < wr.heap.size := (Array.getElem?_eq_some_iff.1 hit).1
        by_cases hp : pos < t.size
        · have hnx : ∀ ty, (Instr.next (.pointer (some ⟨w.heap.size, 0, none⟩)) true ty).run Try.prog wr = _ := fun ty => Lib.run_next_any_at wr w.heap.size t pos ty hit hp
          have hwd := width_pos t pos hp
          have hit2 := Lib.iterAt_heap wr w.heap.size t pos (pos + (Utf8.decode t pos).2) hit
          have hbw2 := Lib.below_iterAt hbw (k := w.heap.size) (Nat.le_refl _) t (pos + (Utf8.decode t pos).2)
          obtain ⟨f, rfl⟩ : ∃ f, fuel = f + 1 := ⟨fuel - 1, by omega⟩
          have hes := enc_size ((Utf8.decode t pos).1 : Int)
          have HACC := hid hacc
          clear hacc
          go_wp2
          go_roundw
          case rel =>
            refine ⟨pos + (Utf8.decode t pos).2, f, _, rfl, hit2, hbw2, ?_, by omega, ?_⟩
            · rw [ByteArray.data_append, Array.toList_append, enc_eq, ← HACC.out]; simp [recFrom, hp]
            · simp; omega
          case measure =>
            simp only [World.iterPos, hit2, hit]
            omega
        · have hnx : ∀ ty, (Instr.next (.pointer (some ⟨w.heap.size, 0, none⟩)) true ty).run Try.prog wr = _ := fun ty => Lib.run_next_end_at wr w.heap.size t pos ty hit hp
          rw [recFrom_end t fuel pos hp, List.append_nil] at hacc
          have HACC := hid hacc
          clear hacc
          go_wp2
          go_ret
          refine ⟨?_, hbw⟩
          rw [HD.out, ← HACC.out, Lib.mk_data]; rfl

end Go.Proofs.Ythmhljnfjjblcaa
