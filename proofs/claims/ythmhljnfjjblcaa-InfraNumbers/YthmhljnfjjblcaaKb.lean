/-
  The walk of the law InfraNumbers.
-/
import Derived.Test.YthmhljnfjjblcaaWk
import Derived.Test.YthmhljnfjjblcaaWi
import Derived.Test.YthmhljnfjjblcaaWj
import Derived.Test.YthmhljnfjjblcaaWl
import Derived.Test.YthmhljnfjjblcaaWm
import Derived.Test.YthmhljnfjjblcaaKc
import Derived.Lib.SlBytesConst
set_option linter.unusedSimpArgs false
set_option linter.unusedVariables false
namespace Go.Proofs.Ythmhljnfjjblcaa
open Go.RowKit

set_option maxHeartbeats 2000000 in
theorem infraNumbers_walk (w : World) :
    Calls Try.prog 3 #[] w fun e w' => e = .returned (.bool true) ∧ Below w.heap.size w w' := by
  go_enter Try.func3, Try.ntmps3
  go_wp2_with fail
  refine (base64_yes ⟨#[89, 81]⟩ [97] w (by decide) (by decide)).mono ?_
  rintro e w1 ⟨g, cap, rfl, hown, hb1⟩
  have hS := SlB.own hown
  clear hown
  go_wp2_with fail
  refine (base64_no ⟨#[89]⟩ w1 (by decide) (by decide)).mono ?_
  rintro e w2 ⟨rfl, hb2⟩
  have hS := hS.kept hb2
  go_wp2_with fail
  refine (base64_no ⟨#[89, 81, 61]⟩ w2 (by decide) (by decide)).mono ?_
  rintro e w3 ⟨rfl, hb3⟩
  have hS := hS.kept hb3
  go_wp2_with fail
  refine (base64_yes ⟨#[]⟩ [] w3 (by decide) (by decide)).mono ?_
  rintro e w4 ⟨g4, cap4, rfl, hown4, hb4⟩
  have hS := hS.kept hb4
  clear hown4
  go_wp2_with fail
  refine (int_at ⟨#[48, 48, 55]⟩ w4 7 true (by decide) (by decide) (by decide)).mono ?_
  rintro e w5 ⟨rfl, rfl⟩
  go_wp2_with fail
  refine (int_at ⟨#[45, 49]⟩ w4 0 false (by decide) (by decide) (by decide)).mono ?_
  rintro e w5 ⟨rfl, rfl⟩
  go_wp2_with fail
  refine (int_at ⟨#[57, 57, 57, 57, 57, 57, 57, 57, 57, 57, 57, 57, 57, 57, 57, 57, 57, 57, 57, 57]⟩ w4 9223372036854775807 true (by decide) (by decide +kernel) (by decide)).mono ?_
  rintro e w5 ⟨rfl, rfl⟩
  go_wp2_with fail
  refine (int_at ⟨#[]⟩ w4 0 false (by decide) (by decide) (by decide)).mono ?_
  rintro e w5 ⟨rfl, rfl⟩
  have hcv : (convert 22 9 (.slice (some ⟨g, 0, none⟩) 1 cap)).run Try.prog w4 = .ok (.string ⟨#[97]⟩) w4 := hS.string (P := Try.prog) Try.underlying22 Try.underlying5 Try.underlying9
  go_wp2_with fail
  refine (strip_at ⟨#[32, 9, 10, 32]⟩ w4 [] (by decide) (by decide)).mono ?_
  rintro e w5 ⟨rfl, rfl⟩
  go_wp2_with fail
  refine (decode_at _ [255] [239, 191, 189] _ (SlB.laid w4 _ _ _ [255] 1 rfl) (by decide) (by decide +kernel)).mono ?_
  rintro e w5 ⟨rfl, hb5⟩
  have hk := Lib.run_convert_bytes_const (P := Try.prog) w5 22 5 #[.int .u8 239, .int .u8 187, .int .u8 191, .int .u8 97] 4 4 Try.underlying22 Try.underlying5
  go_wp2_with fail
  refine (decode_at _ [239, 187, 191, 97] [97] _ (SlB.laid w5 _ _ _ [239, 187, 191, 97] 4 rfl) (by decide) (by decide +kernel)).mono ?_
  rintro e w6 ⟨rfl, hb6⟩
  go_wp2_with fail
  refine (lower_at ⟨#[65, 122, 195, 137]⟩ w6 [97, 122, 195, 137] (by decide) (by decide)).mono ?_
  rintro e w7 ⟨rfl, hb7⟩
  go_wp2_with fail
  refine (percent_at ⟨#[97, 32, 98]⟩ 9 w7 [97, 32, 98] (by decide) (by decide)).mono ?_
  rintro e w8 ⟨rfl, hb8⟩
  go_wp2_with fail
  refine (known_any w8).mono ?_
  rintro e w9 ⟨rfl, hb9⟩
  go_wp2
  go_ret
  have n5 : Below w4.heap.size w4 w5 := ((Below.refl _ w4).alloc (Nat.le_refl _) _).trans (hb5.mono (by simp))
  have n6 : Below w5.heap.size w5 w6 := ((Below.refl _ w5).alloc (Nat.le_refl _) _).trans (hb6.mono (by simp))
  exact ⟨rfl, below2 (below5 hb1 hb2 hb3 hb4 n5) (below2 n6 (below2 hb7 (below2 hb8 hb9)))⟩

end Go.Proofs.Ythmhljnfjjblcaa
