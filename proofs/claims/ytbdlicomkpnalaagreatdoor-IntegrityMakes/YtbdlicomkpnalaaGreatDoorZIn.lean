/-
  What ostiaryref8's Sum answers, at any size.
-/
import Derived.Test.YtbdlicomkpnalaaGreatDoorZr
import Derived.Test.YtbdlicomkpnalaaGreatDoorZIm5
import Derived.Test.YtbdlicomkpnalaaGreatDoorZIm8
import Derived.Test.YtbdlicomkpnalaaGreatDoorZLu
set_option linter.unusedSimpArgs false
set_option linter.unusedVariables false
namespace Go.Proofs.YtbdlicomkpnalaaGreatDoor
open Go.RowKit

def RSumPost (bits : Int) (l : List UInt8) (w : World) (e : Ending) (w' : World) : Prop :=
  ((sumV sqr cbr bits l = none ∧ e = .returned (.tuple #[.slice none 0 0, .bool false])) ∨
   ∃ r g c n, sumV sqr cbr bits l = some r ∧ r.length = n ∧ e = .returned (.tuple #[.slice (some ⟨g, 0, none⟩) n c, .bool true]) ∧ SlB w' (.slice (some ⟨g, 0, none⟩) n c) r) ∧ Below w.heap.size w w'

set_option maxHeartbeats 1000000 in
theorem rsum_none (T : Nat) (bits : Int) (v : Value) (l : List UInt8) (w : World) (h1 : bits ≠ 256) (h2 : bits ≠ 384) (h3 : bits ≠ 512) :
    Calls Tryz.prog 23 #[.pointer (some ⟨T, 0, none⟩), .int .i64 bits, v] w (RSumPost bits l w) := by
  have HN := hid (sumV_none l h1 h2 h3)
  have e1 : (bits == 256) = false := by simpa using h1
  have e2 : (bits == 384) = false := by simpa using h2
  have e3 : (bits == 512) = false := by simpa using h3
  clear h1 h2 h3
  go_enter Tryz.func23, Tryz.ntmps23
  go_wp2_with fail
  go_ret2
  exact ⟨.inl ⟨HN.out, rfl⟩, (Below.refl _ _).alloc (Nat.le_refl _) _⟩

theorem rsum_any (T : Nat) (bits : Int) (a0 : Option Addr) (len cap : Nat) (l : List UInt8) (w : World) (hT : Rw w T .u64 58 tabV) (hv : SlB w (.slice a0 len cap) l) (hn : a0 = none → cap = 0) (hl : l.length ≤ 100000000) :
    Calls Tryz.prog 23 #[.pointer (some ⟨T, 0, none⟩), .int .i64 bits, .slice a0 len cap] w (RSumPost bits l w) := by
  by_cases h1 : bits = 256
  · subst h1
    refine (rsum256 T a0 len cap l w hT hv hn hl).mono ?_
    rintro e w' ⟨g, c, rfl, hs, hb⟩
    exact ⟨.inr ⟨_, g, c, 32, rfl, summed_len nar _ _ _ _ _ (by decide), rfl, hs⟩, hb⟩
  · by_cases h2 : bits = 384
    · subst h2
      refine (rsum384 T a0 len cap l w hT hv hn hl).mono ?_
      rintro e w' ⟨g, c, rfl, hs, hb⟩
      exact ⟨.inr ⟨_, g, c, 48, rfl, summed_len wid _ _ _ _ _ (by decide), rfl, hs⟩, hb⟩
    · by_cases h3 : bits = 512
      · subst h3
        refine (rsum512 T a0 len cap l w hT hv hn hl).mono ?_
        rintro e w' ⟨g, c, rfl, hs, hb⟩
        exact ⟨.inr ⟨_, g, c, 64, rfl, summed_len wid _ _ _ _ _ (by decide), rfl, hs⟩, hb⟩
      · exact rsum_none T bits _ l w h1 h2 h3

theorem sumV_size {bits : Int} {l r : List UInt8} (h : sumV sqr cbr bits l = some r) : (bits = 256 ∧ r.length = 32) ∨ (bits = 384 ∧ r.length = 48) ∨ (bits = 512 ∧ r.length = 64) := by
  unfold sumV at h
  split at h
  · obtain rfl := Option.some.inj h; exact .inl ⟨by assumption, summed_len nar _ _ _ _ _ (by decide)⟩
  · split at h
    · obtain rfl := Option.some.inj h; exact .inr (.inl ⟨by assumption, summed_len wid _ _ _ _ _ (by decide)⟩)
    · split at h
      · obtain rfl := Option.some.inj h; exact .inr (.inr ⟨by assumption, summed_len wid _ _ _ _ _ (by decide)⟩)
      · cases h

end Go.Proofs.YtbdlicomkpnalaaGreatDoor
