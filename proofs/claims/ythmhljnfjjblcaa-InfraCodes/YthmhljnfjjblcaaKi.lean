/-
  The walk of the law InfraCodes.
-/
import Derived.Test.YthmhljnfjjblcaaRl
import Derived.Test.YthmhljnfjjblcaaWk
import Derived.Test.YthmhljnfjjblcaaWn
import Derived.Test.YthmhljnfjjblcaaKc
set_option linter.unusedSimpArgs false
set_option linter.unusedVariables false
namespace Go.Proofs.Ythmhljnfjjblcaa
open Go.RowKit

theorem base64_both (s : ByteArray) (w : World) (hs : s.size ≤ 1000000) :
    Calls Try.prog 12 #[.string s] w fun e w' => ∃ a n c, e = .returned (.tuple #[.slice a n c, .bool (b64 s.data.toList).isSome]) ∧ SlB w' (.slice a n c) ((b64 s.data.toList).getD []) ∧ Below w.heap.size w w' := by
  refine (base64_any s w (by omega)).mono ?_
  rintro e w' ⟨hb, ⟨h, rfl⟩ | ⟨l, v, h, rfl, hown, _⟩⟩
  · rw [h]; exact ⟨none, 0, 0, rfl, .inl ⟨0, rfl, rfl⟩, hb⟩
  · rw [h]
    have hS := SlB.own hown
    obtain ⟨a, c, rfl⟩ := hS.len
    exact ⟨a, l.length, c, rfl, hS, hb⟩

theorem rbase64_both (s : ByteArray) (w : World) (hs : s.size ≤ 1000000) :
    Calls Try.prog 28 #[.string s] w fun e w' => ∃ a n c, e = .returned (.tuple #[.slice a n c, .bool (b64 s.data.toList).isSome]) ∧ SlB w' (.slice a n c) ((b64 s.data.toList).getD []) ∧ Below w.heap.size w w' := by
  refine (rbase64_any s w hs).mono ?_
  rintro e w' ⟨hb, ⟨h, rfl⟩ | ⟨a, n, c, l, h, rfl, hS⟩⟩
  · rw [h]; exact ⟨none, 0, 0, rfl, .inl ⟨0, rfl, rfl⟩, hb⟩
  · rw [h]; exact ⟨a, n, c, rfl, hS, hb⟩

theorem b64_len (l : List UInt8) : ((b64 l).getD []).length ≤ l.length := by
  have h1 := noBlanks_le l
  have h2 : (noPadding (noBlanks l)).length ≤ (noBlanks l).length := by
    unfold noPadding
    split
    · exact Nat.le_trans (Lib.trimSuffix_le _ _) (Lib.trimSuffix_le _ _)
    · exact Nat.le_refl _
  have h3 := run64_len (noPadding (noBlanks l))
  unfold b64
  split
  · simp
  · split
    · simp; omega
    · simp

set_option maxHeartbeats 2000000 in
theorem infraCodes_walk (a0 : Option Addr) (len0 cap0 : Nat) (z0 : List Int) (set0 : Int) (w : World) (w0 : IsRow .u8 w a0 len0 cap0 z0) (w1 : (Lit.int .i64 set0).wf = true) :
    Calls Try.prog 5 #[.slice a0 len0 cap0, .int .i64 set0] w fun e w' => e = .returned (.bool true) ∧ Below w.heap.size w w' := by
  obtain ⟨l0, hl0, hS0, hc0, hm0⟩ := w0.bytes
  clear w0 w1
  go_enter Try.func5, Try.ntmps5
  go_wp2_with fail
  refine (fewBytes_any a0 len0 cap0 1500 l0 w hl0 hS0 hc0 hm0 (by decide)).mono ?_
  rintro e w1 ⟨len, hlen, hlc, rfl, hS, rfl⟩
  obtain ⟨l, hl⟩ : ∃ l, l = l0.take 1500 := ⟨_, rfl⟩
  rw [← hl] at hS hlen
  have hll : l.length ≤ 1500 := by rw [hl]; simp; omega
  clear hl hS0 hl0
  subst hlen
  have hcv := hS.string (P := Try.prog) (src := 22) (dst := 9) Try.underlying22 Try.underlying5 Try.underlying9
  obtain ⟨s, hs⟩ : ∃ s : ByteArray, s = ⟨l.toArray⟩ := ⟨_, rfl⟩
  have hsl : s.data.toList = l := by rw [hs]
  have hsz : s.size ≤ 1500 := by rw [Lib.size_eq, hsl]; exact hll
  rw [← hs] at hcv
  have hbl := b64_len s.data.toList
  rw [← Lib.size_eq] at hbl
  clear hs hsl
  go_wp2_with fail
  refine (base64_both s w (by omega)).mono ?_
  rintro e w1 ⟨a1, n1, c1, rfl, hX, hb1⟩
  clear hcv
  go_wp2_with fail
  refine (rbase64_both s w1 (by omega)).mono ?_
  rintro e w2 ⟨a2, n2, c2, rfl, hY, hb2⟩
  have hX2 := hX.kept hb2
  have hS2 := (hS.kept hb1).kept hb2
  have hok : ∀ b : Bool, (b == b) = true := by intro b; cases b <;> rfl
  have hok1 := hok (b64 s.data.toList).isSome
  generalize (b64 s.data.toList).isSome = ok at *
  generalize (b64 s.data.toList).getD [] = Z at hX2 hY hbl
  clear hX hS hok
  go_wp2_with fail
  refine (same_any a1 a2 n1 n2 c1 c2 Z Z w2 hX2 hY (by omega) (by omega)).mono ?_
  rintro e w3 ⟨rfl, hb3⟩
  rw [beq_self_eq_true]
  have hS3 := hS2.kept hb3
  clear hX2 hY hS2
  go_wp2_with fail
  refine (encode64_any a0 l.length cap0 l w3 hS3 hlc hm0 (by omega)).mono ?_
  rintro e w4 ⟨rfl, hb4⟩
  have hS4 := hS3.kept hb4
  clear hS3
  go_wp2_with fail
  refine (rencode64_any a0 l.length cap0 l w4 hS4 hlc hm0 (by omega)).mono ?_
  rintro e w5 ⟨rfl, hb5⟩
  clear hS4
  go_wp2_with fail
  refine (percent_any s set0 w5 (by omega)).mono ?_
  rintro e w6 ⟨rfl, hb6⟩
  go_wp2_with fail
  refine (rpercent_any s set0 w6 (by omega)).mono ?_
  rintro e w7 ⟨rfl, hb7⟩
  go_wp2_with fail
  refine (unpercent_any s w7 (by omega)).mono ?_
  rintro e w8 ⟨rfl, hb8⟩
  go_wp2_with fail
  refine (runpercent_any s w8 (by omega)).mono ?_
  rintro e w9 ⟨rfl, hb9⟩
  go_wp2_with fail
  refine (known_any w9).mono ?_
  rintro e w10 ⟨rfl, hb10⟩
  go_wp2
  go_ret
  exact ⟨rfl, below2 (below5 hb1 hb2 hb3 hb4 hb5) (below5 hb6 hb7 hb8 hb9 hb10)⟩

end Go.Proofs.Ythmhljnfjjblcaa
