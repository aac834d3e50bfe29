/-
  What the calls lean on in memory: the library's own variables stand as they were laid; the walks of host's functions on texts that call the library alone.
-/
import Derived.Test.YtdpihilikhbamaaGreatDoorVa
import Derived.Test.YtdpihilikhbamaaGreatDoorHb
import Derived.Test.YtdpihilikhbamaaGreatDoorSh
import Derived.Lib.AppendIntMem
import Derived.Lib.SmallJoins
import Derived.WalkSmall
set_option linter.unusedSimpArgs false
set_option linter.unusedVariables false
namespace Go.Proofs.YtdpihilikhbamaaGreatDoor
open Go.RowKit

def dB64 : List Int := [0, 1, 56, 2, 57, 49, 28, 3, 61, 58, 42, 50, 38, 29, 17, 4, 62, 47, 59, 36, 45, 43, 51, 22, 53, 39, 33, 30, 24, 18, 12, 5, 63, 55, 48, 27, 60, 41, 37, 16, 46, 35, 44, 21, 52, 32, 23, 11, 54, 26, 40, 15, 34, 20, 31, 10, 25, 14, 19, 9, 13, 8, 7, 6]

theorem gPow10 : Tryz.prog.globalNamed "internal/strconv.uint64pow10" = some 1 := by kernel_rfl
theorem gDB64 : Tryz.prog.globalNamed "math/bits.deBruijn64tab" = some 3 := by kernel_rfl

/-- What the library's variables hold. -/
def Gd (w : World) : Prop :=
  (∃ m, w.cell? ⟨0, 0, none⟩ = some (.int .i64 m)) ∧ Lib.TabIs Tryz.prog w "internal/strconv.uint64pow10" .u64 Lib.pow10Tab ∧ Lib.TabIs Tryz.prog w "math/bits.deBruijn64tab" .u8 dB64

theorem Gd.kept {w w' : World} (h : Gd w) (hb : Below w.heap.size w w') : Gd w' := by
  obtain ⟨⟨m, hm⟩, h1, h2⟩ := h
  exact ⟨⟨m, (hb.cell (World.block_lt_of_cell? w _ hm)).trans hm⟩, Joins.tab_stays gPow10 h1 hb (Nat.le_refl _), Joins.tab_stays gDB64 h2 hb (Nat.le_refl _)⟩

theorem below2 {a b c : World} (h1 : Below a.heap.size a b) (h2 : Below b.heap.size b c) : Below a.heap.size a c := h1.trans (h2.mono h1.size)

theorem cut_any (s sep : ByteArray) (w : World) (hg : Gd w) (hs : s.size ≤ 4000000000) :
    Calls Tryz.prog 31 #[.string s, .string sep] w fun e w' => e = .returned (.tuple #[.string ⟨(Lib.cut s.data.toList sep.data.toList).1.toArray⟩, .string ⟨(Lib.cut s.data.toList sep.data.toList).2.1.toArray⟩, .bool (Lib.cut s.data.toList sep.data.toList).2.2]) ∧ Below w.heap.size w w' := by
  obtain ⟨⟨m, hm⟩, _, _⟩ := hg
  refine (Tryz.strings_Cut s sep m w (by omega) hm).mono ?_
  rintro e w' ⟨rfl, n, rfl⟩
  exact ⟨rfl, below_drewN (Below.refl _ _) n⟩

theorem contains_any (s sep : ByteArray) (w : World) (hg : Gd w) (hs : s.size ≤ 4000000000) :
    Calls Tryz.prog 68 #[.string s, .string sep] w fun e w' => e = .returned (.bool (Lib.contains s.data.toList sep.data.toList)) ∧ w = w' := by
  obtain ⟨⟨m, hm⟩, _, _⟩ := hg
  refine (Tryz.strings_Contains s sep m w (by omega) hm).mono ?_
  rintro e w' ⟨rfl, rfl⟩
  exact ⟨rfl, rfl⟩

theorem hasPrefix_any (s p : ByteArray) (w : World) :
    Calls Tryz.prog 15 #[.string s, .string p] w fun e w' => e = .returned (.bool (Lib.hasPrefix s.data.toList p.data.toList)) ∧ w = w' :=
  (Tryz.strings_HasPrefix s p w).mono fun e w' ⟨h, h'⟩ => ⟨h, h'.symm⟩

theorem ret_sb {a b : ByteArray} {x y : Bool} (h : a = b) (g : x = y) : Ending.returned (.tuple #[.string a, .bool x]) = .returned (.tuple #[.string b, .bool y]) := by rw [h, g]

theorem marked_len (l : List UInt8) (h : marked l = true) : 2 ≤ l.length := by
  unfold marked at h
  simp only [Bool.or_eq_true, Lib.hasPrefix, List.isPrefixOf_iff_prefix] at h
  rcases h with h | h <;> simpa using h.length_le

set_option maxHeartbeats 400000 in
theorem withoutLastDot_any (s : ByteArray) (w : World) (hs : s.size ≤ 4000000000) :
    Calls Tryz.prog 30 #[.string s] w fun e w' => e = .returned (.string ⟨(noDot s.data.toList).toArray⟩) ∧ w = w' := by
  go_enter Tryz.func30, Tryz.ntmps30
  go_wp2_with (go_at_call 58; refine (Tryz.strings_TrimSuffix _ _ _ (by omega)).mono ?_; rintro e w' ⟨rfl, rfl⟩)
  go_ret
  exact ⟨rfl, rfl⟩

def behind (l : List UInt8) : List UInt8 := if marked l then l.drop 2 else []

theorem behind_yes (s : ByteArray) (h : marked s.data.toList = true) : s.extract 2 s.size = ⟨(behind s.data.toList).toArray⟩ := by
  refine ba_ext ?_
  rw [extract_drop, behind, if_pos h]

theorem behind_no (s : ByteArray) (h : marked s.data.toList = false) : (⟨#[]⟩ : ByteArray) = ⟨(behind s.data.toList).toArray⟩ := by
  simp [behind, h]

set_option maxHeartbeats 400000 in
theorem behindMark_any (s : ByteArray) (w : World) (hs : s.size ≤ 4000000000) :
    Calls Tryz.prog 38 #[.string s] w fun e w' => e = .returned (.tuple #[.string ⟨(behind s.data.toList).toArray⟩, .bool (marked s.data.toList)]) ∧ w = w' := by
  by_cases h1 : Lib.hasPrefix s.data.toList [48, 120] = true
  · have hm : marked s.data.toList = true := by simp [marked, h1]
    have hl := marked_len _ hm
    have hl' : (2 : Int) ≤ (s.size : Int) := by simp at hl; omega
    have HM := hid hm
    clear hm hl
    go_enter Tryz.func38, Tryz.ntmps38
    go_wp2_with (go_at_call 15; refine (hasPrefix_any _ _ _).mono ?_; rintro e w' ⟨rfl, rfl⟩)
    go_ret2
    exact ⟨ret_sb (behind_yes s HM.out) HM.out.symm, rfl⟩
  · have h1' : Lib.hasPrefix s.data.toList [48, 120] = false := by simpa using h1
    clear h1
    by_cases h2 : Lib.hasPrefix s.data.toList [48, 88] = true
    · have hm : marked s.data.toList = true := by simp [marked, h2]
      have hl := marked_len _ hm
      have hl' : (2 : Int) ≤ (s.size : Int) := by simp at hl; omega
      have HM := hid hm
      clear hm hl
      go_enter Tryz.func38, Tryz.ntmps38
      go_wp2_with (go_at_call 15; refine (hasPrefix_any _ _ _).mono ?_; rintro e w' ⟨rfl, rfl⟩)
      go_ret2
      exact ⟨ret_sb (behind_yes s HM.out) HM.out.symm, rfl⟩
    · have h2' : Lib.hasPrefix s.data.toList [48, 88] = false := by simpa using h2
      clear h2
      have hm : marked s.data.toList = false := by simp [marked, h1', h2']
      have HM := hid hm
      clear hm
      go_enter Tryz.func38, Tryz.ntmps38
      go_wp2_with (go_at_call 15; refine (hasPrefix_any _ _ _).mono ?_; rintro e w' ⟨rfl, rfl⟩)
      go_ret2
      exact ⟨ret_sb (behind_no s HM.out) HM.out.symm, rfl⟩

end Go.Proofs.YtdpihilikhbamaaGreatDoor
