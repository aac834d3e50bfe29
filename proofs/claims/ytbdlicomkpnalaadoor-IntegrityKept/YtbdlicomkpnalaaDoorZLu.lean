/-
  The walk of digest.Sum.
-/
import Derived.Test.YtbdlicomkpnalaaDoorZLw3
import Derived.Test.YtbdlicomkpnalaaDoorZLw5
import Derived.Test.YtbdlicomkpnalaaDoorZLw6
set_option linter.unusedSimpArgs false
set_option linter.unusedVariables false
namespace Go.Proofs.YtbdlicomkpnalaaDoor
open Go.RowKit

/-- What Sum answers. -/
def SumPost (bits : Int) (l : List UInt8) (w : World) (e : Ending) (w' : World) : Prop :=
  ((sumV sqr cbr bits l = none ∧ e = .returned (.tuple #[.slice none 0 0, .int .i64 1])) ∨
   ∃ r G n, sumV sqr cbr bits l = some r ∧ r.length = n ∧ e = .returned (.tuple #[.slice (some ⟨G, 0, none⟩) n n, .int .i64 0]) ∧ w'.ownsRow w.heap.size 5 1 (.slice (some ⟨G, 0, none⟩) n n) n (Lib.byteCells r)) ∧ Below w.heap.size w w'

theorem flat_len (k : Kd) (l : List Nat) : (l.flatMap (bytesV k.B)).length = l.length * k.B := by
  induction l with
  | nil => simp
  | cons x r ih => rw [List.flatMap_cons, List.length_append, ih, bytes_len, List.length_cons, Nat.succ_mul, Nat.add_comm]

theorem summed_len (k : Kd) (Hs Ks : List Nat) (f n : Nat) (l : List UInt8) (h : n ≤ 8 * k.B) : (summedV k Hs Ks f n l).length = n := by
  unfold summedV toldV
  rw [List.length_take, flat_len]
  show min n (8 * k.B) = n
  omega

set_option maxHeartbeats 1000000 in
theorem sum_256 (a0 : Option Addr) (len cap : Nat) (l : List UInt8) (w : World) (hg : Gt w) (hv : SlB w (.slice a0 len cap) l) (hlc : len ≤ cap) (hcm : cap ≤ maxLen) (hl : l.length ≤ 100000) :
    Calls Tryd.prog 11 #[.int .i64 256, .slice a0 len cap] w (SumPost 256 l w) := by
  have HC := hid (fun (X : World) (hb : Below w.heap.size w X) => summed32 0 a0 len cap l X (hg.kept hb) (hv.kept hb) hlc hcm hl (by decide))
  clear hg hv hlc hcm hl
  go_enter Tryd.func11, Tryd.ntmps11
  go_wp2_with fail
  refine (narrow_any _).mono ?_
  rintro e w1 ⟨rfl, hb1⟩
  go_wp2_with fail
  refine (HC.out w1 hb1).mono ?_
  rintro e w2 ⟨G, rfl, hown, hb2⟩
  have HO := hid (ownsRow_lower8_32 hown hb1.size)
  have HB := hid (below2 hb1 hb2)
  clear hown hb1 hb2
  go_wp2_with fail
  go_ret2
  exact ⟨.inr ⟨_, G, 32, rfl, summed_len nar _ _ _ _ _ (by decide), rfl, HO.out⟩, HB.out⟩

set_option maxHeartbeats 1000000 in
theorem sum_384 (a0 : Option Addr) (len cap : Nat) (l : List UInt8) (w : World) (hg : Gt w) (hv : SlB w (.slice a0 len cap) l) (hlc : len ≤ cap) (hcm : cap ≤ maxLen) (hl : l.length ≤ 100000) :
    Calls Tryd.prog 11 #[.int .i64 384, .slice a0 len cap] w (SumPost 384 l w) := by
  have HC := hid (fun (X : World) (hb : Below w.heap.size w X) => summed48 8 a0 len cap l X (hg.kept hb) (hv.kept hb) hlc hcm hl (by decide))
  clear hg hv hlc hcm hl
  go_enter Tryd.func11, Tryd.ntmps11
  go_wp2_with fail
  refine (wide_any _).mono ?_
  rintro e w1 ⟨rfl, hb1⟩
  go_wp2_with fail
  refine (HC.out w1 hb1).mono ?_
  rintro e w2 ⟨G, rfl, hown, hb2⟩
  have HO := hid (ownsRow_lower8_32 hown hb1.size)
  have HB := hid (below2 hb1 hb2)
  clear hown hb1 hb2
  go_wp2_with fail
  go_ret2
  exact ⟨.inr ⟨_, G, 48, rfl, summed_len wid _ _ _ _ _ (by decide), rfl, HO.out⟩, HB.out⟩

set_option maxHeartbeats 1000000 in
theorem sum_512 (a0 : Option Addr) (len cap : Nat) (l : List UInt8) (w : World) (hg : Gt w) (hv : SlB w (.slice a0 len cap) l) (hlc : len ≤ cap) (hcm : cap ≤ maxLen) (hl : l.length ≤ 100000) :
    Calls Tryd.prog 11 #[.int .i64 512, .slice a0 len cap] w (SumPost 512 l w) := by
  have HC := hid (fun (X : World) (hb : Below w.heap.size w X) => summed64 0 a0 len cap l X (hg.kept hb) (hv.kept hb) hlc hcm hl (by decide))
  clear hg hv hlc hcm hl
  go_enter Tryd.func11, Tryd.ntmps11
  go_wp2_with fail
  refine (wide_any _).mono ?_
  rintro e w1 ⟨rfl, hb1⟩
  go_wp2_with fail
  refine (HC.out w1 hb1).mono ?_
  rintro e w2 ⟨G, rfl, hown, hb2⟩
  have HO := hid (ownsRow_lower8_32 hown hb1.size)
  have HB := hid (below2 hb1 hb2)
  clear hown hb1 hb2
  go_wp2_with fail
  go_ret2
  exact ⟨.inr ⟨_, G, 64, rfl, summed_len wid _ _ _ _ _ (by decide), rfl, HO.out⟩, HB.out⟩

theorem sumV_none {bits : Int} (l : List UInt8) (h1 : bits ≠ 256) (h2 : bits ≠ 384) (h3 : bits ≠ 512) : sumV sqr cbr bits l = none := by
  unfold sumV
  rw [if_neg h1, if_neg h2, if_neg h3]

set_option maxHeartbeats 1000000 in
theorem sum_none (bits : Int) (v : Value) (l : List UInt8) (w : World) (h1 : bits ≠ 256) (h2 : bits ≠ 384) (h3 : bits ≠ 512) :
    Calls Tryd.prog 11 #[.int .i64 bits, v] w (SumPost bits l w) := by
  have HN := hid (sumV_none l h1 h2 h3)
  have e1 : (bits == 256) = false := by simpa using h1
  have e2 : (bits == 384) = false := by simpa using h2
  have e3 : (bits == 512) = false := by simpa using h3
  clear h1 h2 h3
  go_enter Tryd.func11, Tryd.ntmps11
  go_wp2
  go_ret2
  exact ⟨.inl ⟨HN.out, rfl⟩, Below.refl _ _⟩

theorem sum_any (bits : Int) (a0 : Option Addr) (len cap : Nat) (l : List UInt8) (w : World) (hg : Gt w) (hv : SlB w (.slice a0 len cap) l) (hlc : len ≤ cap) (hcm : cap ≤ maxLen) (hl : l.length ≤ 100000) :
    Calls Tryd.prog 11 #[.int .i64 bits, .slice a0 len cap] w (SumPost bits l w) := by
  by_cases h1 : bits = 256
  · subst h1; exact sum_256 a0 len cap l w hg hv hlc hcm hl
  · by_cases h2 : bits = 384
    · subst h2; exact sum_384 a0 len cap l w hg hv hlc hcm hl
    · by_cases h3 : bits = 512
      · subst h3; exact sum_512 a0 len cap l w hg hv hlc hcm hl
      · exact sum_none bits _ l w h1 h2 h3

theorem sumV_len {bits : Int} {l r : List UInt8} (h : sumV sqr cbr bits l = some r) : r.length ≤ 64 := by
  unfold sumV at h
  split at h
  · obtain rfl := Option.some.inj h; rw [summed_len nar _ _ _ _ _ (by decide)]; decide
  · split at h
    · obtain rfl := Option.some.inj h; rw [summed_len wid _ _ _ _ _ (by decide)]; decide
    · split at h
      · obtain rfl := Option.some.inj h; rw [summed_len wid _ _ _ _ _ (by decide)]; decide
      · cases h

end Go.Proofs.YtbdlicomkpnalaaDoor
