/-
  The walk of the law InfraTexts.
-/
import Derived.Test.YthmhljnfjjblcaaWk
import Derived.Test.YthmhljnfjjblcaaKc
import Derived.Test.YthmhljnfjjblcaaRa
import Derived.Test.YthmhljnfjjblcaaRb
import Derived.Test.YthmhljnfjjblcaaRc
set_option linter.unusedSimpArgs false
set_option linter.unusedVariables false
namespace Go.Proofs.Ythmhljnfjjblcaa
open Go.RowKit

set_option maxHeartbeats 2000000 in
theorem infraTexts_walk (a0 : Option Addr) (len0 cap0 : Nat) (z0 : List Int) (w : World) (w0 : IsRow .u8 w a0 len0 cap0 z0) :
    Calls Try.prog 4 #[.slice a0 len0 cap0] w fun e w' => e = .returned (.bool true) ∧ Below w.heap.size w w' := by
  obtain ⟨l0, hl0, hS0, hc0, hm0⟩ := w0.bytes
  clear w0
  go_enter Try.func4, Try.ntmps4
  go_wp2_with fail
  refine (fewBytes_any a0 len0 cap0 2000 l0 w hl0 hS0 hc0 hm0 (by decide)).mono ?_
  rintro e w1 ⟨len, hlen, hlc, rfl, hS, rfl⟩
  obtain ⟨l, hl⟩ : ∃ l, l = l0.take 2000 := ⟨_, rfl⟩
  rw [← hl] at hS hlen
  have hll : l.length ≤ 2000 := by rw [hl]; simp; omega
  clear hl hS0 hl0
  subst hlen
  go_wp2_with fail
  refine (roomy_any a0 l.length cap0 l 165 w hS (by omega)).mono ?_
  rintro e w1 ⟨rfl, hF1, hb1⟩
  have hS1 := hS.kept hb1
  obtain ⟨F, hF⟩ : ∃ F, F = l ++ List.replicate 80 165 := ⟨_, rfl⟩
  rw [← hF] at hF1
  have HF := hid hF
  have hFl : F.length = l.length + 80 := by rw [hF]; simp
  have hFt : F.take l.length = l := by rw [hF]; simp
  clear hF hS
  have hcv := hS1.string (P := Try.prog) (src := 22) (dst := 9) Try.underlying22 Try.underlying5 Try.underlying9
  obtain ⟨s, hs⟩ : ∃ s : ByteArray, s = ⟨l.toArray⟩ := ⟨_, rfl⟩
  have hsl : s.data.toList = l := by rw [hs]
  have hsz : s.size ≤ 2000 := by rw [Lib.size_eq, hsl]; exact hll
  rw [← hs] at hcv
  clear hs
  have HFl := hid hFl
  have HFt := hid hFt
  have HSl := hid hsl
  clear hFl hFt hsl
  go_wp2_with fail
  refine (int_any s w1 (by omega)).mono ?_
  rintro e w2 ⟨rfl, rfl⟩
  clear hcv
  go_wp2_with fail
  refine (rint_any s w1 (by omega)).mono ?_
  rintro e w2 ⟨rfl, rfl⟩
  go_wp2_with fail
  refine (lower_any s w1 (by omega)).mono ?_
  rintro e w2 ⟨rfl, hb2⟩
  go_wp2_with fail
  refine (rlower_any s w2 (by omega)).mono ?_
  rintro e w3 ⟨rfl, hb3⟩
  go_wp2_with fail
  refine (strip_any s w3 (by omega)).mono ?_
  rintro e w4 ⟨rfl, rfl⟩
  go_wp2_with fail
  refine (rstrip_any s w3 (by omega)).mono ?_
  rintro e w4 ⟨rfl, rfl⟩
  have hF3 := (hF1.kept hb2).kept hb3
  have hS3 := (hS1.kept hb2).kept hb3
  have hFf := hF3.take l.length (by rw [HFl.out]; omega)
  rw [HFt.out] at hFf
  go_wp2_with fail
  refine (decode_any _ l w3 hFf (by omega)).mono ?_
  rintro e w4 ⟨rfl, hb4⟩
  have hS4 := hS3.kept hb4
  have hF4 := hF3.kept hb4
  clear hFf hF3 hS3 hF1 hS1
  go_wp2_with fail
  refine (rdecode_any _ l w4 hS4 (by omega)).mono ?_
  rintro e w5 ⟨rfl, hb5⟩
  have hS5 := hS4.kept hb5
  have hF5 := hF4.kept hb5
  clear hS4 hF4
  go_wp2_with fail
  refine (token_any s w5 (by omega)).mono ?_
  rintro e w6 ⟨rfl, rfl⟩
  go_wp2_with fail
  refine (rtoken_any s w5 (by omega)).mono ?_
  rintro e w6 ⟨rfl, rfl⟩
  go_wp2_with fail
  rw [HF.out] at hF5
  refine (intact_any w.heap.size a0 l.length cap0 l 165 w5 hF5 hS5 (by omega)).mono ?_
  rintro e w6 ⟨rfl, hb6⟩
  clear hF5 hS5
  go_wp2_with fail
  refine (known_any w6).mono ?_
  rintro e w7 ⟨rfl, hb7⟩
  go_wp2
  go_ret
  exact ⟨rfl, below2 (below5 hb1 hb2 hb3 hb4 hb5) (below2 hb6 hb7)⟩

end Go.Proofs.Ythmhljnfjjblcaa
