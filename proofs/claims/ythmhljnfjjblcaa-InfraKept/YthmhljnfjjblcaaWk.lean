/-
  The walk of ostiarylaw1.known: it answers true.
-/
import Derived.Test.YthmhljnfjjblcaaWd
import Derived.Test.YthmhljnfjjblcaaWf
import Derived.Test.YthmhljnfjjblcaaWg
import Derived.Test.YthmhljnfjjblcaaWh
set_option linter.unusedSimpArgs false
set_option linter.unusedVariables false
namespace Go.Proofs.Ythmhljnfjjblcaa
open Go.RowKit

theorem known_b64 : b64 [89, 32, 81, 61, 61] = some [97] := by decide
theorem known_pct : pct 5 [97, 32, 98, 37] = [97, 37, 50, 48, 98, 37] := by decide
theorem known_unpct : unpct [37, 52, 49, 37, 122, 122, 37, 52] = [65, 37, 122, 122, 37, 52] := by decide
theorem known_tok1 : tokL [97, 45, 98] = true := by decide
theorem known_tok0 : tokL [] = false := by decide

/-- Base64 where it answers. -/
theorem base64_yes (s : ByteArray) (l : List UInt8) (w : World) (hs : s.size ≤ 140737488351232) (h : b64 s.data.toList = some l) :
    Calls Try.prog 12 #[.string s] w fun e w' => ∃ g cap, e = .returned (.tuple #[.slice (some ⟨g, 0, none⟩) l.length cap, .bool true]) ∧ w'.ownsRow w.heap.size 5 1 (.slice (some ⟨g, 0, none⟩) l.length cap) l.length (Lib.byteCells l) ∧ Below w.heap.size w w' := by
  refine (base64_any s w hs).mono ?_
  rintro e w' ⟨hb, ⟨hn, _⟩ | ⟨l', v, hl, rfl, hown, hnn⟩⟩
  · rw [h] at hn; simp at hn
  · rw [h] at hl
    obtain rfl := Option.some.inj hl
    rcases hown.2 with ⟨hv, _⟩ | ⟨g, cap, cur, rfl, hr⟩
    · exact absurd hv hnn
    · exact ⟨g, cap, rfl, hown, hb⟩

/-- Base64 where it refuses. -/
theorem base64_no (s : ByteArray) (w : World) (hs : s.size ≤ 140737488351232) (h : b64 s.data.toList = none) :
    Calls Try.prog 12 #[.string s] w fun e w' => e = .returned (.tuple #[.slice none 0 0, .bool false]) ∧ Below w.heap.size w w' := by
  refine (base64_any s w hs).mono ?_
  rintro e w' ⟨hb, ⟨_, he⟩ | ⟨l', v, hl, _⟩⟩
  · exact ⟨he, hb⟩
  · rw [h] at hl; simp at hl

set_option maxHeartbeats 1000000 in
theorem known_any (w : World) :
    Calls Try.prog 18 #[] w fun e w' => e = .returned (.bool true) ∧ Below w.heap.size w w' := by
  go_enter Try.func18, Try.ntmps18
  go_wp2_with fail
  refine (base64_yes _ [97] w (by decide) known_b64).mono ?_
  rintro e w1 ⟨g, cap, rfl, hown, hb1⟩
  have hcv : (convert 22 9 (.slice (some ⟨g, 0, none⟩) 1 cap)).run Try.prog w1 = .ok (.string ⟨#[97]⟩) w1 := run_string_own (l := [97]) Try.underlying22 Try.underlying5 Try.underlying9 hown (by simp)
  go_wp2_with fail
  refine (percent_any ⟨#[97, 32, 98, 37]⟩ 5 w1 (by decide)).mono ?_
  rintro e w2 ⟨rfl, hb2⟩
  rw [show (⟨#[97, 32, 98, 37]⟩ : ByteArray).data.toList = [97, 32, 98, 37] from rfl, known_pct]
  go_wp2_with fail
  refine (unpercent_any ⟨#[37, 52, 49, 37, 122, 122, 37, 52]⟩ w2 (by decide)).mono ?_
  rintro e w3 ⟨rfl, hb3⟩
  rw [show (⟨#[37, 52, 49, 37, 122, 122, 37, 52]⟩ : ByteArray).data.toList = [37, 52, 49, 37, 122, 122, 37, 52] from rfl, known_unpct]
  go_wp2_with fail
  refine (token_any ⟨#[97, 45, 98]⟩ w3 (by decide)).mono ?_
  rintro e w4 ⟨rfl, rfl⟩
  rw [show (⟨#[97, 45, 98]⟩ : ByteArray).data.toList = [97, 45, 98] from rfl, known_tok1]
  go_wp2_with fail
  refine (token_any ⟨#[]⟩ w3 (by decide)).mono ?_
  rintro e w4 ⟨rfl, rfl⟩
  rw [show (⟨#[]⟩ : ByteArray).data.toList = [] from rfl, known_tok0]
  go_wp2
  go_ret
  exact ⟨rfl, (hb1.trans (hb2.mono hb1.size)).trans (hb3.mono (by have := hb1.size; have := hb2.size; omega))⟩

end Go.Proofs.Ythmhljnfjjblcaa
