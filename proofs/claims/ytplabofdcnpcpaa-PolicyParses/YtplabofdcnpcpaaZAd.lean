/-
  The walks of strings.ContainsRune at the five blanks, of policy's blank, of strings.FieldsFunc with it, of strings.Cut at one byte.
-/
import Derived.Test.YtplabofdcnpcpaaZGa
import Derived.Test.YtplabofdcnpcpaaZSh
import Derived.Test.YtplabofdcnpcpaaZGb
import Derived.Laws.RangeAny
import Derived.Lib.DecodeN
import Derived.Lib.OthersKept
import Derived.Lib.IndexBytes
import Derived.Deep.LoopGhost
import Derived.RegionTactic
import Derived.Deep.RegionWith
import Derived.Deep.QuietTactic
import Derived.BigQuiet
import Derived.Laws.Runes
import Derived.Deep.WholeRow
import Derived.Below
import Derived.WalkSmall
set_option linter.unusedSimpArgs false
set_option linter.unusedVariables false
namespace Go.Proofs.Ytplabofdcnpcpaa
open Go.RowKit

theorem below_iter10 (w : World) (s : ByteArray) (i : Nat) : Below w.heap.size w (w.iter s i) := (Below.refl _ w).alloc (Nat.le_refl _) _

set_option maxHeartbeats 2000000 in
set_option maxRecDepth 100000 in
theorem indexRune10 (r : Int) (w : World) (hr1 : 128 ≤ r) (h2 : r ≤ 1114111) :
    Calls Try.prog 61 #[.string ⟨#[9, 10, 12, 13, 32]⟩, .int .i32 r] w fun e w' => e = .returned (.int .i64 (-1)) ∧ Below w.heap.size w w' := by
  have hr0 : (0 : Int) ≤ r := by omega
  by_cases he : r = 65533
  · subst he
    go_enter Try.func61, Try.ntmps61
    go_wp2
    go_loopg [5, 6] 5 (fun g _ _ wx => ∃ i : Nat, i + g = 5 ∧ wx = w.iter ⟨#[9, 10, 12, 13, 32]⟩ i)
    case atStart => exact ⟨0, by omega, rfl⟩
    case round =>
      obtain ⟨i, hig, rfl⟩ := hrel
      match gk, hig with
      | 0, hig =>
        obtain rfl : i = 5 := by omega
        have hnx := run_next_end (P := Try.prog) w ⟨#[9, 10, 12, 13, 32]⟩ 5
        go_wp2
        go_ret
        exact ⟨rfl, below_iter10 w _ _⟩
      | 1, hig =>
        obtain rfl : i = 4 := by omega
        have hnx := fun ty => run_next_ascii (P := Try.prog) w ⟨#[9, 10, 12, 13, 32]⟩ 4 ty (by decide) (by decide)
        go_wp2
        go_roundg 0
        case measure => omega
        case rel => exact ⟨5, by omega, rfl⟩
      | 2, hig =>
        obtain rfl : i = 3 := by omega
        have hnx := fun ty => run_next_ascii (P := Try.prog) w ⟨#[9, 10, 12, 13, 32]⟩ 3 ty (by decide) (by decide)
        go_wp2
        go_roundg 1
        case measure => omega
        case rel => exact ⟨4, by omega, rfl⟩
      | 3, hig =>
        obtain rfl : i = 2 := by omega
        have hnx := fun ty => run_next_ascii (P := Try.prog) w ⟨#[9, 10, 12, 13, 32]⟩ 2 ty (by decide) (by decide)
        go_wp2
        go_roundg 2
        case measure => omega
        case rel => exact ⟨3, by omega, rfl⟩
      | 4, hig =>
        obtain rfl : i = 1 := by omega
        have hnx := fun ty => run_next_ascii (P := Try.prog) w ⟨#[9, 10, 12, 13, 32]⟩ 1 ty (by decide) (by decide)
        go_wp2
        go_roundg 3
        case measure => omega
        case rel => exact ⟨2, by omega, rfl⟩
      | 5, hig =>
        obtain rfl : i = 0 := by omega
        have hnx := fun ty => run_next_ascii (P := Try.prog) w ⟨#[9, 10, 12, 13, 32]⟩ 0 ty (by decide) (by decide)
        go_wp2
        go_roundg 4
        case measure => omega
        case rel => exact ⟨1, by omega, rfl⟩
      | g + 6, hig => omega
  · have he' : (r == 65533) = false := by rw [beq_eq_false_iff_ne]; exact he
    have hcv : ∀ w : World, Calls Try.prog 66 #[.int .i32 r] w fun e w' => e = .returned (.bool (Lib.validRune r)) ∧ w' = w := fun w => Try.utf8_ValidRune _ w
    have hvv : Lib.validRune r = true ∨ Lib.validRune r = false := by cases Lib.validRune r <;> simp
    rcases hvv with hv | hv
    rotate_left
    · rw [hv] at hcv
      clear hv h2 he
      go_enter Try.func61, Try.ntmps61
      go_wp2_with (go_at_call 66; refine (hcv _).mono ?_; rintro e w' ⟨rfl, rfl⟩)
      go_ret
      exact ⟨rfl, Below.refl _ _⟩
    · obtain ⟨X, hX⟩ : ∃ X, Utf8.encode r = X := ⟨_, rfl⟩
      have hvu : Utf8.valid r = true := by
        have := of_decide_eq_true hv
        simp only [Utf8.valid, Bool.or_eq_true, Bool.and_eq_true, decide_eq_true_eq]
        omega
      have hf := encode_facts r hvu (by omega)
      rw [hX] at hf
      obtain ⟨f1, f2, f3⟩ := hf
      have HF := hid f3
      rw [hv] at hcv
      clear f3 hv hvu h2 he
      have hx : X.size = 2 ∨ X.size = 3 ∨ X.size = 4 := by omega
      rcases hx with hx | hx | hx
      · obtain ⟨a, b, rfl⟩ : ∃ a b : UInt8, X = ⟨#[a, b]⟩ := by
          obtain ⟨⟨L⟩⟩ := X
          match L, hx with
          | [a, b], _ => exact ⟨a, b, rfl⟩
        have hb : 128 ≤ b.toNat := HF.out (show 1 < 2 by decide)
        have hb8 : b.toNat < 256 := b.toNat_lt
        have hb1 : ((((⟨#[9, 10, 12, 13, 32]⟩ : ByteArray)[1]'(show 1 < 5 by decide)).toNat : Int) != (((⟨#[a, b]⟩ : ByteArray)[1]'(show 1 < 2 by decide)).toNat : Int)) = true := by
          show (((10 : UInt8).toNat : Int) != (b.toNat : Int)) = true
          have : (10 : UInt8).toNat = 10 := rfl
          simp only [bne_iff_ne, ne_eq]
          omega
        have HIB := hid (show Lib.indexByte ((⟨#[9, 10, 12, 13, 32]⟩ : ByteArray).extract 2 5).data.toList ((((⟨#[a, b]⟩ : ByteArray)[1]'(show 1 < 2 by decide)).toNat : Int)).toNat.toUInt8 = -1 by
          have e1 : ((⟨#[9, 10, 12, 13, 32]⟩ : ByteArray).extract 2 5).data.toList = [12, 13, 32] := by rw [Lib.extract_data]; rfl
          have e2 : ((((⟨#[a, b]⟩ : ByteArray)[1]'(show 1 < 2 by decide)).toNat : Int)).toNat.toUInt8 = b := by
            show ((b.toNat : Int)).toNat.toUInt8 = b
            simp
          rw [e1, e2]
          have n0 : (12 : UInt8) ≠ b := fun e => by rw [← e] at hb; revert hb; decide
          have n1 : (13 : UInt8) ≠ b := fun e => by rw [← e] at hb; revert hb; decide
          have n2 : (32 : UInt8) ≠ b := fun e => by rw [← e] at hb; revert hb; decide
          simp [Lib.indexByte, n0, n1, n2])
        clear hx f1 f2 HF
        go_enter Try.func61, Try.ntmps61
        go_wp2_with (go_at_call 66; refine (hcv _).mono ?_; rintro e w' ⟨rfl, rfl⟩)
        go_step3
        go_wp2
        go_loop [9] (fun i => i = .int .i64 1) (fun _ => 0)
        case atStart => rfl
        case round =>
          subst hrel
          go_wp2
          go_step3
          go_wp2
          go_region
          go_wp2
          go_region_with (go_at_call 65; refine (Try.strings_IndexByte _ _ _).mono ?_; rintro e w'' ⟨rfl, rfl⟩; rw [HIB.out])
          all_goals
            go_wp2
            rw [Exit.noGoto_ret]
            go_wp2
            rw [Exit.noGoto_ret]
            go_wp2
            go_ret
            exact ⟨rfl, (Below.refl _ _).drew.drew⟩
      · obtain ⟨a, b, c, rfl⟩ : ∃ a b c : UInt8, X = ⟨#[a, b, c]⟩ := by
          obtain ⟨⟨L⟩⟩ := X
          match L, hx with
          | [a, b, c], _ => exact ⟨a, b, c, rfl⟩
        have hb : 128 ≤ c.toNat := HF.out (show 2 < 3 by decide)
        have hb8 : c.toNat < 256 := c.toNat_lt
        have hb1 : ((((⟨#[9, 10, 12, 13, 32]⟩ : ByteArray)[2]'(show 2 < 5 by decide)).toNat : Int) != (((⟨#[a, b, c]⟩ : ByteArray)[2]'(show 2 < 3 by decide)).toNat : Int)) = true := by
          show (((12 : UInt8).toNat : Int) != (c.toNat : Int)) = true
          have : (12 : UInt8).toNat = 12 := rfl
          simp only [bne_iff_ne, ne_eq]
          omega
        have HIB := hid (show Lib.indexByte ((⟨#[9, 10, 12, 13, 32]⟩ : ByteArray).extract 3 5).data.toList ((((⟨#[a, b, c]⟩ : ByteArray)[2]'(show 2 < 3 by decide)).toNat : Int)).toNat.toUInt8 = -1 by
          have e1 : ((⟨#[9, 10, 12, 13, 32]⟩ : ByteArray).extract 3 5).data.toList = [13, 32] := by rw [Lib.extract_data]; rfl
          have e2 : ((((⟨#[a, b, c]⟩ : ByteArray)[2]'(show 2 < 3 by decide)).toNat : Int)).toNat.toUInt8 = c := by
            show ((c.toNat : Int)).toNat.toUInt8 = c
            simp
          rw [e1, e2]
          have n0 : (13 : UInt8) ≠ c := fun e => by rw [← e] at hb; revert hb; decide
          have n1 : (32 : UInt8) ≠ c := fun e => by rw [← e] at hb; revert hb; decide
          simp [Lib.indexByte, n0, n1])
        clear hx f1 f2 HF
        go_enter Try.func61, Try.ntmps61
        go_wp2_with (go_at_call 66; refine (hcv _).mono ?_; rintro e w' ⟨rfl, rfl⟩)
        go_step3
        go_wp2
        go_loop [9] (fun i => i = .int .i64 2) (fun _ => 0)
        case atStart => rfl
        case round =>
          subst hrel
          go_wp2
          go_step3
          go_wp2
          go_region
          go_wp2
          go_region_with (go_at_call 65; refine (Try.strings_IndexByte _ _ _).mono ?_; rintro e w'' ⟨rfl, rfl⟩; rw [HIB.out])
          all_goals
            go_wp2
            rw [Exit.noGoto_ret]
            go_wp2
            rw [Exit.noGoto_ret]
            go_wp2
            go_ret
            exact ⟨rfl, (Below.refl _ _).drew.drew⟩
      · obtain ⟨a, b, c, d, rfl⟩ : ∃ a b c d : UInt8, X = ⟨#[a, b, c, d]⟩ := by
          obtain ⟨⟨L⟩⟩ := X
          match L, hx with
          | [a, b, c, d], _ => exact ⟨a, b, c, d, rfl⟩
        have hb : 128 ≤ d.toNat := HF.out (show 3 < 4 by decide)
        have hb8 : d.toNat < 256 := d.toNat_lt
        have hb1 : ((((⟨#[9, 10, 12, 13, 32]⟩ : ByteArray)[3]'(show 3 < 5 by decide)).toNat : Int) != (((⟨#[a, b, c, d]⟩ : ByteArray)[3]'(show 3 < 4 by decide)).toNat : Int)) = true := by
          show (((13 : UInt8).toNat : Int) != (d.toNat : Int)) = true
          have : (13 : UInt8).toNat = 13 := rfl
          simp only [bne_iff_ne, ne_eq]
          omega
        have HIB := hid (show Lib.indexByte ((⟨#[9, 10, 12, 13, 32]⟩ : ByteArray).extract 4 5).data.toList ((((⟨#[a, b, c, d]⟩ : ByteArray)[3]'(show 3 < 4 by decide)).toNat : Int)).toNat.toUInt8 = -1 by
          have e1 : ((⟨#[9, 10, 12, 13, 32]⟩ : ByteArray).extract 4 5).data.toList = [32] := by rw [Lib.extract_data]; rfl
          have e2 : ((((⟨#[a, b, c, d]⟩ : ByteArray)[3]'(show 3 < 4 by decide)).toNat : Int)).toNat.toUInt8 = d := by
            show ((d.toNat : Int)).toNat.toUInt8 = d
            simp
          rw [e1, e2]
          have n0 : (32 : UInt8) ≠ d := fun e => by rw [← e] at hb; revert hb; decide
          simp [Lib.indexByte, n0])
        clear hx f1 f2 HF
        go_enter Try.func61, Try.ntmps61
        go_wp2_with (go_at_call 66; refine (hcv _).mono ?_; rintro e w' ⟨rfl, rfl⟩)
        go_step3
        go_wp2
        go_loop [9] (fun i => i = .int .i64 3) (fun _ => 0)
        case atStart => rfl
        case round =>
          subst hrel
          go_wp2
          go_step3
          go_wp2
          go_region
          go_wp2
          go_region_with (go_at_call 65; refine (Try.strings_IndexByte _ _ _).mono ?_; rintro e w'' ⟨rfl, rfl⟩; rw [HIB.out])
          all_goals
            go_wp2
            rw [Exit.noGoto_ret]
            go_wp2
            rw [Exit.noGoto_ret]
            go_wp2
            go_ret
            exact ⟨rfl, (Below.refl _ _).drew.drew⟩

theorem p9_low (x : Nat) (h : x < 128) : decide (0 ≤ Lib.indexByte [9, 10, 12, 13, 32] ((x : Int).toNat.toUInt8)) = p9 x := by
  have h2 : ∀ n : Fin 128, decide (0 ≤ Lib.indexByte [9, 10, 12, 13, 32] ((n.val : Int).toNat.toUInt8)) = p9 n.val := by decide +kernel
  exact h2 ⟨x, h⟩

set_option maxHeartbeats 1000000 in
theorem contR10 (x : Nat) (w : World) (hx : x ≤ 1114111) :
    Calls Try.prog 54 #[.string ⟨#[9, 10, 12, 13, 32]⟩, .int .i32 (x : Int)] w fun e w' => e = .returned (.bool (p9 x)) ∧ Below w.heap.size w w' := by
  by_cases h : x < 128
  · have HC := hid (Try.strings_IndexRune_ascii ⟨#[9, 10, 12, 13, 32]⟩ (x : Int) w (by omega) (by omega))
    have HP := hid (show decide (0 ≤ Lib.indexByte (⟨#[9, 10, 12, 13, 32]⟩ : ByteArray).data.toList ((x : Int).toNat.toUInt8)) = p9 x from p9_low x h)
    clear h hx
    go_enter Try.func54, Try.ntmps54
    go_wp2_with fail
    refine HC.out.mono ?_
    rintro e w1 ⟨rfl, rfl⟩
    generalize Lib.indexByte (⟨#[9, 10, 12, 13, 32]⟩ : ByteArray).data.toList ((x : Int).toNat.toUInt8) = z at HP ⊢
    go_wp2_with fail
    go_ret
    refine ⟨?_, Below.refl _ _⟩
    rw [← HP.out]
    rfl
  · have HC := hid (indexRune10 (x : Int) w (by omega) (by omega))
    have HP := hid (p9_high x (by omega))
    clear h hx
    go_enter Try.func54, Try.ntmps54
    go_wp2_with fail
    refine HC.out.mono ?_
    rintro e w1 ⟨rfl, hb⟩
    have HB := hid hb
    clear hb
    go_wp2_with fail
    go_ret
    rw [HP.out]
    exact ⟨rfl, HB.out⟩

set_option maxHeartbeats 400000 in
theorem blank10 (x : Nat) (w : World) (hx : x ≤ 1114111) :
    Calls Try.prog 46 #[.int .i32 (x : Int)] w fun e w' => e = .returned (.bool (p9 x)) ∧ Below w.heap.size w w' := by
  have HC := hid (contR10 x w hx)
  clear hx
  go_enter Try.func46, Try.ntmps46
  go_wp2_with fail
  refine HC.out.mono ?_
  rintro e w1 ⟨rfl, hb⟩
  have HB := hid hb
  clear hb
  go_wp2_with fail
  go_ret
  exact ⟨rfl, HB.out⟩

set_option maxHeartbeats 1000000 in
theorem cut10 (s : ByteArray) (c : UInt8) (w : World) (hs : s.size ≤ 140737488351232) :
    Calls Try.prog 31 #[.string s, .string ⟨#[c]⟩] w fun e w' => e = .returned (.tuple #[.string ⟨(part c s.data.toList).1.toArray⟩, .string ⟨(part c s.data.toList).2.1.toArray⟩, .bool (part c s.data.toList).2.2]) ∧ Below w.heap.size w w' := by
  have HI := hid (fun X => Try.stringslite_Index_one s c X)
  have hLC : ∀ X, Calls Try.prog 44 #[.string s, .string ⟨#[c]⟩] X fun e w' => e = .returned (.tuple #[.string ⟨(part c s.data.toList).1.toArray⟩, .string ⟨(part c s.data.toList).2.1.toArray⟩, .bool (part c s.data.toList).2.2]) ∧ Below X.heap.size X w' := by
    intro X
    rcases first_split c s.data.toList with h | ⟨a, r, h, he⟩
    · have HP := hid (part_none c _ h)
      have h1 : Lib.indexByte s.data.toList c = -1 := by rw [← Lib.index_one]; exact index_one_none _ _ h
      rw [h1] at HI
      clear h h1
      go_enter Try.func44, Try.ntmps44
      go_wp2_with fail
      refine (HI.out _).mono ?_
      rintro e w1 ⟨rfl, rfl⟩
      go_wp2_with fail
      go_ret3
      rw [HP.out]
      refine ⟨?_, Below.refl _ _⟩
      show _ = Ending.returned (.tuple #[.string ⟨s.data.toList.toArray⟩, .string ⟨#[]⟩, .bool false])
      rw [Lib.mk_data]
      rfl
    · have HP := hid (part_some c a r h)
      have h1 : Lib.indexByte s.data.toList c = a.length := by rw [← Lib.index_one, he]; exact index_one_some _ _ _ h
      rw [h1] at HI
      have HE := hid he
      have hsz : s.size = a.length + r.length + 1 := by rw [Lib.size_eq, he]; simp; omega
      have hle : (a.length : Int) ≤ (s.size : Int) := by omega
      have hle2 : (a.length : Int) + 1 ≤ (s.size : Int) := by omega
      have H1 := hid (show s.extract 0 a.length = ⟨a.toArray⟩ by
        rw [← Lib.mk_data (s.extract 0 a.length)]
        congr 2
        rw [Lib.extract_data, he]
        simp)
      have H2 := hid (show s.extract (a.length + 1) s.size = ⟨r.toArray⟩ by
        rw [← Lib.mk_data (s.extract (a.length + 1) s.size)]
        congr 2
        rw [Lib.extract_data, he, hsz]
        simp [List.take_of_length_le])
      clear h h1 he hsz
      go_enter Try.func44, Try.ntmps44
      go_wp2_with fail
      refine (HI.out _).mono ?_
      rintro e w1 ⟨rfl, rfl⟩
      go_wp2_with fail
      go_region
      go_wp2_with fail
      go_ret3
      rw [HE.out, HP.out]
      refine ⟨?_, (Below.refl _ _).drew⟩
      rw [← H1.out, ← H2.out]
      rfl
  have HC := hid (hLC w)
  clear hLC HI
  go_enter Try.func31, Try.ntmps31
  go_wp2_with fail
  refine HC.out.mono ?_
  rintro e w1 ⟨rfl, hb⟩
  have HB := hid hb
  clear hb
  go_wp2_with fail
  go_ret3
  exact ⟨rfl, HB.out⟩

end Go.Proofs.Ytplabofdcnpcpaa
