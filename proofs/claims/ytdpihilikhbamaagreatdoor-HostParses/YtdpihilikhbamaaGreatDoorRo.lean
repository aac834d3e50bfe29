/-
  The walk of the document's own Text6.
-/
import Derived.Test.YtdpihilikhbamaaGreatDoorHh
import Derived.Test.YtdpihilikhbamaaGreatDoorVm
set_option linter.unusedSimpArgs false
set_option linter.unusedVariables false
namespace Go.Proofs.YtdpihilikhbamaaGreatDoor
open Go.RowKit

/-- Where the document's own run is. -/
def RunAt (fr to b : Nat) (a : Int) : Prop := b = max (to - fr) 1 ∧ ((fr = to ∧ a = -1) ∨ (fr < to ∧ a = fr))

theorem last_at (A : List UInt8) (c : UInt8) (h : A.length < (⟨(A ++ [c]).toArray⟩ : ByteArray).size) : (⟨(A ++ [c]).toArray⟩ : ByteArray)[A.length] = c := by
  show (A ++ [c]).toArray[A.length]'(by simp) = c
  simp

theorem toList_ne (B : ByteArray) (h : 0 < B.size) : B.toList.isEmpty = false := by
  rw [Lib.toList_data]
  rw [Lib.size_eq] at h
  cases hl : B.data.toList with
  | nil => rw [hl] at h; simp at h
  | cons a l => rfl

set_option maxHeartbeats 4000000 in
set_option maxRecDepth 100000 in
theorem rtext6_any (x : List Nat) (w : World) (h8 : x.length = 8) (h16 : ∀ n ∈ x, n < 65536) :
    Calls Tryz.prog 23 #[agg8 x] w fun e w' => e = .returned (.string ⟨(text6 x).toArray⟩) ∧ Below w.heap.size w w' := by
  have HN0 := hid (nums_row (x := x) (heap_alloc_new w (.cells (cells16 x).toArray 34 (0, 0))))
  have H16 := hid h16
  clear h16
  unfold agg8
  go_enter Tryz.func23, Tryz.ntmps23
  go_wp2
  have HB0 := hid ((Below.refl _ w).alloc (Nat.le_refl _) (.cells (cells16 x).toArray 34 (0, 0)))
  go_loopg [3, 4, 5] 8 (fun g av bv iv wr => ∃ (i fr to b : Nat) (a : Int), i + g = 8 ∧ av = .int .i64 a ∧ bv = .int .i64 b ∧ iv = .int .i64 i ∧ fr ≤ to ∧ to ≤ 8 ∧ -1 ≤ a ∧ a ≤ 8 ∧ b ≤ 8 ∧ RunAt fr to b a ∧ lrunN 0 i fr to (x.drop i) = lrun x ∧ Nums wr w.heap.size 0 x ∧ Below w.heap.size w wr)
  case atStart => exact ⟨0, 0, 0, 1, -1, by omega, rfl, rfl, rfl, by omega, by omega, by omega, by omega, by omega, ⟨rfl, .inl ⟨rfl, rfl⟩⟩, rfl, HN0.out, HB0.out⟩
  case round =>
    obtain ⟨i, fr, to, b, a, hig, rfl, rfl, rfl, hft, ht8, ha1, ha2, hb8, hrun, hlr, hnums, hbw⟩ := hrel
    have HL := hid hlr
    have HN := hid hnums
    have HRun := hid hrun
    clear hlr hnums hrun
    cases gk with
    | zero =>
      have HR := hid (show lrun x = (fr, to) by rw [← HL.out, List.drop_eq_nil_of_le (by omega)]; rfl)
      have hi8 : i = 8 := by omega
      subst hi8
      clear hig
      have hcase : (fr = to ∧ a = -1) ∨ (fr < to ∧ a = fr ∧ fr + b ≤ to ∧ to ≤ fr + b) := by
        obtain ⟨h1, h2⟩ := HRun.out
        omega
      have HF := hid (show t6 x fr to 8 = text6 x by
        have h := t6_end x h8 (by rw [HR.out]; omega) (by rw [HR.out]; exact ht8)
        rw [HR.out] at h; exact h)
      clear HL HR HRun
      go_wp2
      go_loopg [7, 8] 8 (fun g tv iv wx => ∃ i : Nat, i + g = 8 ∧ iv = .int .i64 i ∧ tv = .string ⟨(t6 x fr to i).toArray⟩ ∧ (fr = to ∨ i ≤ fr ∨ to ≤ i) ∧ Nums wx w.heap.size 0 x ∧ Below w.heap.size w wx)
      case atStart => exact ⟨0, by omega, rfl, by simp [t6, joined_nil], by omega, HN.out, hbw⟩
      case round =>
        clear HN hbw
        obtain ⟨i, hig, rfl, rfl, hpl, hnums, hbw⟩ := hrel
        have HN := hid hnums
        clear hnums
        have hTl := t6_le x fr to i h8
        cases gk with
        | zero =>
          have hi8 : i = 8 := by omega
          subst hi8
          go_wp2
          go_ret
          rw [HF.out]
          exact ⟨rfl, hbw⟩
        | succ g =>
          have hi8 : (i : Int) < 8 := by omega
          by_cases hat : fr < to ∧ i = fr
          · obtain ⟨hlt, rfl⟩ := hat
            have ha : a = (i : Int) := by omega
            subst ha
            have HM := hid (show (⟨(t6 x i to i).toArray⟩ : ByteArray) ++ ⟨#[58, 58]⟩ = ⟨(t6 x i to to).toArray⟩ by rw [t6_mark x i to hlt (by omega), show (⟨#[58, 58]⟩ : ByteArray) = ⟨[58, 58].toArray⟩ from rfl, ba_app])
            have hbt1 : (i : Int) + (b : Int) ≤ (to : Int) := by omega
            have hbt2 : (to : Int) ≤ (i : Int) + (b : Int) := by omega
            clear hcase
            go_wp2
            go_roundg (8 - to)
            case measure => omega
            case rel => exact ⟨to, by omega, by go_num, by rw [HM.out], by omega, HN.out, hbw⟩
          · have hat' : ((i : Int) == a) = false := by rw [beq_eq_false_iff_ne]; omega
            have hix : i < x.length := by omega
            have hcell := HN.out i hix
            rw [Nat.zero_add] at hcell
            have HD := hid (fun W => rdigits_any x[i] W (H16.out _ (List.getElem_mem hix)))
            have hpl' : fr = to ∨ i + 1 ≤ fr ∨ to ≤ i + 1 := by omega
            have hst := t6_step x fr to i hix hft (by omega)
            have hxl := hex16_le x[i]
            generalize x[i] = xi at hcell HD hst hxl
            generalize t6 x fr to i = T at *
            clear hcase hat hpl
            rcases hst with ⟨h1, h2⟩ | ⟨⟨A, h1⟩, h2⟩ | ⟨⟨A, c, h1, hc⟩, h2⟩
            · subst h1
              have HE := hid h2
              clear h2
              go_wp2_with (go_at_call 54; go_must (refine (HD.out _).mono ?_; rintro e w2 ⟨rfl, rfl⟩))
              go_roundg g
              case measure => omega
              case rel => exact ⟨i + 1, by omega, by go_num, by rw [HE.out]; simp; exact ba_app [] _, hpl', HN.out, hbw⟩
            · obtain ⟨B, hB⟩ : ∃ B : ByteArray, B = ⟨T.toArray⟩ := ⟨_, rfl⟩
              have hBs : B.size = A.length + 1 := by rw [hB, h1]; simp [ByteArray.size]
              have hTl' : A.length + 1 ≤ 200 := by rw [h1] at hTl; simpa using hTl
              have hB0 : (0 : Int) ≤ (B.size : Int) - 1 := by omega
              have hB2 : (B.size : Int) ≤ 200 := by omega
              have hlt : B.size - 1 < B.size := by omega
              have hq : B[B.size - 1] = 58 := by
                subst hB; subst h1
                have e : (⟨(A ++ [58]).toArray⟩ : ByteArray).size - 1 = A.length := by omega
                simp only [e]
                exact last_at A 58 (by omega)
              have hqi : ((B[B.size - 1].toNat : Int)) = 58 := by rw [hq]; rfl
              have hne : B.toList.isEmpty = false := toList_ne B (by omega)
              have hne' : ¬ (B.toList = []) := by intro h; rw [h] at hne; simp at hne
              have HE := hid (show B ++ ⟨(hex16 xi).toArray⟩ = ⟨(t6 x fr to (i + 1)).toArray⟩ by rw [h2, hB, ba_app])
              rw [← hB]
              clear h2 hB h1 hTl hBs hTl' hq
              go_wp2_with (go_at_call 54; go_must (refine (HD.out _).mono ?_; rintro e w2 ⟨rfl, rfl⟩))
              all_goals
                go_roundg g
                case measure => omega
                case rel => exact ⟨i + 1, by omega, by go_num, by rw [HE.out], hpl', HN.out, hbw⟩
            · obtain ⟨B, hB⟩ : ∃ B : ByteArray, B = ⟨T.toArray⟩ := ⟨_, rfl⟩
              have hBs : B.size = A.length + 1 := by rw [hB, h1]; simp [ByteArray.size]
              have hTl' : A.length + 1 ≤ 200 := by rw [h1] at hTl; simpa using hTl
              have hB0 : (0 : Int) ≤ (B.size : Int) - 1 := by omega
              have hB2 : (B.size : Int) ≤ 200 := by omega
              have hlt : B.size - 1 < B.size := by omega
              have hq : B[B.size - 1] = c := by
                subst hB; subst h1
                have e : (⟨(A ++ [c]).toArray⟩ : ByteArray).size - 1 = A.length := by omega
                simp only [e]
                exact last_at A c (by omega)
              have hqi : ((B[B.size - 1].toNat : Int) == 58) = false := by
                rw [hq, beq_eq_false_iff_ne]
                intro h
                exact hc (UInt8.toNat_inj.1 (by have : c.toNat = 58 := by omega
                                                rw [this]; rfl))
              have hne : B.toList.isEmpty = false := toList_ne B (by omega)
              have hne' : ¬ (B.toList = []) := by intro h; rw [h] at hne; simp at hne
              have hqn : ((B[B.size - 1].toNat : Int) != 58) = true := by rw [bne, hqi]; rfl
              have HE := hid (show B ++ ⟨#[58]⟩ ++ ⟨(hex16 xi).toArray⟩ = ⟨(t6 x fr to (i + 1)).toArray⟩ by rw [h2, hB, show (⟨#[58]⟩ : ByteArray) = ⟨[58].toArray⟩ from rfl, ba_app, ba_app, List.append_assoc])
              rw [← hB]
              clear h2 hB h1 hTl hBs hTl' hq
              go_wp2_with (go_at_call 54; go_must (refine (HD.out _).mono ?_; rintro e w2 ⟨rfl, rfl⟩))
              all_goals
                go_roundg g
                case measure => omega
                case rel => exact ⟨i + 1, by omega, by go_num, by rw [HE.out], hpl', HN.out, hbw⟩
    | succ g =>
      have hi8 : (i : Int) < 8 := by omega
      go_wp2
      go_loopg [6] (8 - i) (fun h cv wx => ∃ c : Nat, c + i + h = 8 ∧ cv = .int .i64 c ∧ c + zeros (x.drop (i + c)) = zeros (x.drop i) ∧ wx = wr)
      case atStart => exact ⟨0, by omega, rfl, by simp, rfl⟩
      case round =>
        obtain ⟨c, hch, rfl, hze, rfl⟩ := hrel
        have HZ := hid hze
        clear hze
        by_cases hstop : i + c < 8 ∧ x.getD (i + c) 0 = 0
        · obtain ⟨he8, hx0⟩ := hstop
          have hex : i + c < x.length := by omega
          have hx0' : x[i + c] = 0 := by simpa [List.getD, hex] using hx0
          have hcell := HN.out (i + c) hex
          rw [hx0', Nat.zero_add] at hcell
          have HZ2 := hid (show c + 1 + zeros (x.drop (i + (c + 1))) = zeros (x.drop i) by rw [← HZ.out, zeros_hit hex hx0', Nat.add_assoc i c 1]; omega)
          have he8' : (i : Int) + (c : Int) < 8 := by omega
          clear hx0 hx0'
          go_wp2
          go_roundg (8 - (i + c + 1))
          case measure => omega
          case rel => exact ⟨c + 1, by omega, by go_num, HZ2.out, rfl⟩
        · have hz0 : zeros (x.drop (i + c)) = 0 := by
            by_cases he8 : i + c < 8
            · have hex : i + c < x.length := by omega
              refine zeros_miss hex (fun h => hstop ⟨he8, ?_⟩)
              simp [List.getD, hex, h]
            · rw [List.drop_eq_nil_of_le (by omega)]; rfl
          have hend : c = zeros (x.drop i) := by rw [← HZ.out, hz0]; omega
          obtain ⟨hbm, hcase⟩ := HRun.out
          by_cases hA : max (to - fr) 1 < zeros (x.drop i)
          · have HT := hid (show lrunN 0 (i + 1) i (i + c) (x.drop (i + 1)) = lrun x by
              have h := lrunN_take (x := x) (i := i) (fr := fr) (to := to) (by omega) hA
              rw [HL.out, ← hend] at h
              exact h.symm)
            have HRn := hid (show RunAt i (i + c) c (i : Int) from ⟨by omega, .inr ⟨by omega, rfl⟩⟩)
            have hA' : (b : Int) < (c : Int) := by omega
            have hc8 : c ≤ 8 := by omega
            have hic : i + c ≤ 8 := by omega
            clear hend hz0 hA hbm hcase
            by_cases he8 : i + c < 8
            · have hex : i + c < x.length := by omega
              have hcell := HN.out (i + c) hex
              have hx0 : ((x[i + c] : Int) == 0) = false := by
                rw [beq_eq_false_iff_ne]
                intro h
                apply hstop
                refine ⟨he8, ?_⟩
                simp [List.getD, hex]; omega
              rw [Nat.zero_add] at hcell
              generalize x[i + c] = xe at hcell hx0
              have he8' : (i : Int) + (c : Int) < 8 := by omega
              clear hstop
              go_wp2
              go_roundg g
              case measure => omega
              case rel => exact ⟨i + 1, i, i + c, c, i, by omega, rfl, rfl, by go_num, by omega, by omega, by omega, by omega, by omega, HRn.out, HT.out, HN.out, hbw⟩
            · have he8' : decide ((i : Int) + (c : Int) < 8) = false := decide_eq_false (by omega)
              clear hstop
              go_wp2
              go_roundg g
              case measure => omega
              case rel => exact ⟨i + 1, i, i + c, c, i, by omega, rfl, rfl, by go_num, by omega, by omega, by omega, by omega, by omega, HRn.out, HT.out, HN.out, hbw⟩
          · have HT := hid (show lrunN 0 (i + 1) fr to (x.drop (i + 1)) = lrun x by
              have h := lrunN_skip (x := x) (i := i) (fr := fr) (to := to) (by omega) hA
              rw [HL.out] at h
              exact h.symm)
            have hA' : ¬ ((b : Int) < (c : Int)) := by omega
            clear hend hz0 hA hbm hcase
            by_cases he8 : i + c < 8
            · have hex : i + c < x.length := by omega
              have hcell := HN.out (i + c) hex
              have hx0 : ((x[i + c] : Int) == 0) = false := by
                rw [beq_eq_false_iff_ne]
                intro h
                apply hstop
                refine ⟨he8, ?_⟩
                simp [List.getD, hex]; omega
              rw [Nat.zero_add] at hcell
              generalize x[i + c] = xe at hcell hx0
              have he8' : (i : Int) + (c : Int) < 8 := by omega
              clear hstop
              go_wp2
              go_roundg g
              case measure => omega
              case rel => exact ⟨i + 1, fr, to, b, a, by omega, rfl, rfl, by go_num, hft, ht8, ha1, ha2, hb8, HRun.out, HT.out, HN.out, hbw⟩
            · have he8' : decide ((i : Int) + (c : Int) < 8) = false := decide_eq_false (by omega)
              clear hstop
              go_wp2
              go_roundg g
              case measure => omega
              case rel => exact ⟨i + 1, fr, to, b, a, by omega, rfl, rfl, by go_num, hft, ht8, ha1, ha2, hb8, HRun.out, HT.out, HN.out, hbw⟩

end Go.Proofs.YtdpihilikhbamaaGreatDoor
