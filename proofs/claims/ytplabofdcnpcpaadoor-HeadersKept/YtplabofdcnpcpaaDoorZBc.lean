/-
  The walks of slices.stableCmpFunc and SortStableFunc over at most twenty headers by byName.
-/
import Derived.Test.YtplabofdcnpcpaaDoorZBb
set_option linter.unusedSimpArgs false
set_option linter.unusedVariables false
namespace Go.Proofs.YtplabofdcnpcpaaDoor
open Go.RowKit

/-- Block g holds the headers M0 in order now, those of one name as they stood. -/
def Srtd (g : Nat) (M0 : List Hd) (w w' : World) : Prop := ∃ M, RowH w' g M ∧ M.length = M0.length ∧ Stab M0 M ∧ Srt M M.length ∧ Below g w w'

set_option maxHeartbeats 1000000 in
theorem insNone_any (v : Value) (f : Value) (w : World) :
    Calls Tryd.prog 85 #[v, .int .i64 20, .int .i64 20, f] w fun e w' => e = .returned (.tuple #[]) ∧ w = w' := by
  go_enter Tryd.func85, Tryd.ntmps85
  go_wp2
  go_loopw [8, 9] (fun iv jv wr => iv = .int .i64 21 ∧ wr = w) (fun _ _ _ => 0)
  case atStart => exact ⟨rfl, rfl⟩
  case round =>
    obtain ⟨rfl, rfl⟩ := hrel
    go_wp2
    go_end0
    exact ⟨rfl, rfl⟩

/-- What is known at each round's head. -/
def StInv (g : Nat) (M0 : List Hd) (w : World) (av bv : Value) (wr : World) : Prop := (av = .int .i64 0 ∧ bv = .int .i64 20 ∧ wr = w) ∨ (av = .int .i64 20 ∧ bv = .int .i64 40 ∧ Srtd g M0 w wr)

set_option maxHeartbeats 2000000 in
theorem stable_any (g : Nat) (M0 : List Hd) (w : World) (hr0 : RowH w g M0) (hl : M0.length ≤ 20) :
    Calls Tryd.prog 64 #[.slice (some ⟨g, 0, none⟩) M0.length M0.length, .int .i64 M0.length, .func (.func 36) #[] #[]] w fun e w' => e = .returned (.tuple #[]) ∧ Srtd g M0 w w' := by
  have HI := hid (insSort_any g M0 w hr0 (by omega))
  obtain ⟨n, hn⟩ : ∃ n, n = M0.length := ⟨_, rfl⟩
  rw [← hn] at HI ⊢
  have HN := hid hn
  rw [← hn] at hl
  clear hn
  by_cases h20 : n = 20
  · subst h20
    go_enter Tryd.func64, Tryd.ntmps64
    go_wp2
    go_loopw [7, 8] (fun av bv wr => StInv g M0 w av bv wr) (fun _ bv _ => 60 - (intOf bv).toNat)
    case atStart => exact .inl ⟨rfl, rfl, rfl⟩
    case round =>
      rcases hrel with ⟨rfl, rfl, rfl⟩ | ⟨rfl, rfl, hs⟩
      · go_wp2_with fail
        refine HI.out.mono ?_
        rintro e w1 ⟨rfl, hM⟩
        have HS := hid (show Srtd g M0 wr w1 from by obtain ⟨M, q1, q2, q3⟩ := hM; exact ⟨M, q1, q2.trans HN.out, q3⟩)
        clear hM
        go_wp2
        refine ⟨⟨_, _, _, _, _, _, _, _, _, _, _, _, _, _, .inr ⟨rfl, rfl, HS.out⟩, rfl⟩, ?_⟩
        show 60 - (intOf (.int .i64 40)).toNat < 60 - (intOf (.int .i64 20)).toNat
        decide
      · have HS := hid hs
        clear hs
        go_wp2_with fail
        refine (insNone_any _ _ _).mono ?_
        rintro e w1 ⟨rfl, rfl⟩
        go_wp2
        go_loopw [6, 7, 8, 9] (fun bs _ _ _ wx => bs = .int .i64 20 ∧ wx = wr) (fun _ _ _ _ _ => 0)
        case atStart => exact ⟨rfl, rfl⟩
        case round =>
          obtain ⟨rfl, rfl⟩ := hrel
          go_wp2
          go_end0
          exact ⟨rfl, HS.out⟩
  · have hlt : ¬ (20 : Int) ≤ (n : Int) := by omega
    have hlt2 : ¬ (20 : Int) < (n : Int) := by omega
    go_enter Tryd.func64, Tryd.ntmps64
    go_wp2
    go_loopw [7, 8] (fun av bv wr => av = .int .i64 0 ∧ bv = .int .i64 20 ∧ wr = w) (fun _ _ _ => 0)
    case atStart => exact ⟨rfl, rfl, rfl⟩
    case round =>
      obtain ⟨rfl, rfl, rfl⟩ := hrel
      go_wp2_with fail
      refine HI.out.mono ?_
      rintro e w1 ⟨rfl, hM⟩
      have HS := hid (show Srtd g M0 wr w1 from by obtain ⟨M, q1, q2, q3⟩ := hM; exact ⟨M, q1, q2.trans HN.out, q3⟩)
      clear hM
      go_wp2
      go_loopw [6, 7, 8, 9] (fun bs _ _ _ wx => bs = .int .i64 20 ∧ wx = w1) (fun _ _ _ _ _ => 0)
      case atStart => exact ⟨rfl, rfl⟩
      case round =>
        obtain ⟨rfl, rfl⟩ := hrel
        go_wp2
        go_end0
        exact ⟨rfl, HS.out⟩

set_option maxHeartbeats 1000000 in
theorem sortStable_any (g : Nat) (M0 : List Hd) (w : World) (hr0 : RowH w g M0) (hl : M0.length ≤ 20) :
    Calls Tryd.prog 35 #[.slice (some ⟨g, 0, none⟩) M0.length M0.length, .func (.func 36) #[] #[]] w fun e w' => e = .returned (.tuple #[]) ∧ Srtd g M0 w w' := by
  have HS := hid (stable_any g M0 w hr0 hl)
  go_enter Tryd.func35, Tryd.ntmps35
  go_wp2_with fail
  refine HS.out.mono ?_
  rintro e w1 ⟨rfl, h⟩
  go_wp2
  go_end0
  exact ⟨rfl, h⟩

end Go.Proofs.YtplabofdcnpcpaaDoor
