/-
  The walk of host.Text6.
-/
import Derived.Test.YtdpihilikhbamaaGreatDoorVl
import Derived.Test.YtdpihilikhbamaaGreatDoorVe
import Derived.Deep.RegionWith
set_option linter.unusedSimpArgs false
set_option linter.unusedVariables false
namespace Go.Proofs.YtdpihilikhbamaaGreatDoor
open Go.RowKit

theorem lrunN_le : ∀ (l : List Nat) (i fr to : Nat), fr ≤ to → to ≤ i + l.length → (lrunN 0 i fr to l).1 ≤ (lrunN 0 i fr to l).2 ∧ (lrunN 0 i fr to l).2 ≤ i + l.length
  | [], i, fr, to, h, h2 => ⟨h, h2⟩
  | n :: l, i, fr, to, h, h2 => by
    rw [lrunN]
    have hz := zeros_le (n :: l)
    simp only [List.length_cons] at hz h2 ⊢
    split
    · have := lrunN_le l (i + 1) i (i + zeros (n :: l)) (by omega) (by omega)
      omega
    · have := lrunN_le l (i + 1) fr to h (by omega)
      omega

theorem lrun_le (x : List Nat) : (lrun x).1 ≤ (lrun x).2 ∧ (lrun x).2 ≤ x.length := by
  have := lrunN_le x 0 0 0 (by omega) (by omega)
  rw [Nat.zero_add] at this
  exact this

theorem slice8_to (b k : Nat) (hk : k ≤ 8) (w : World) : (Instr.sliceAt 34 (.pointer (some ⟨b, 0, none⟩)) none (some (.int .i64 (k : Int))) none).run Tryz.prog w = .ok (.slice (some ⟨b, 0, none⟩) k 8) w := by
  have e8 : Tryz.prog.arrayLen 34 = 8 := by kernel_rfl
  have es : (sizeOf (Tryz.prog.elem 34)).run Tryz.prog w = .ok 1 w := by kernel_rfl
  rw [run_sliceAt_array_h w 34 ⟨b, 0, none⟩ (by kernel_rfl) .i64 _ (by omega) (by rw [e8]; omega), es, e8]
  simp only [Result.andThen, slicedAt]
  simp [Addr.add_mid]

/-- Where the rest from k on lies. -/
def fromAd (b k : Nat) : Addr := if k = 8 then ⟨b, 0, none⟩ else ⟨b, k, none⟩

theorem slice8_rest (b k : Nat) (hk : k ≤ 8) (w : World) : (Instr.sliceAt 34 (.pointer (some ⟨b, 0, none⟩)) (some (.int .i64 (k : Int))) none none).run Tryz.prog w = .ok (.slice (some (fromAd b k)) (8 - k) (8 - k)) w := by
  have e8 : Tryz.prog.arrayLen 34 = 8 := by kernel_rfl
  have es : (sizeOf (Tryz.prog.elem 34)).run Tryz.prog w = .ok 1 w := by kernel_rfl
  rw [run_sliceAt_array_l w 34 ⟨b, 0, none⟩ (by kernel_rfl) .i64 _ (by omega) (by rw [e8]; omega), es, e8]
  simp only [Result.andThen, slicedAt]
  have e3 : (if 8 = (k : Int).toNat then (⟨b, 0, none⟩ : Addr) else (⟨b, 0, none⟩ : Addr).add ((k : Int).toNat * 1)) = fromAd b k := by
    unfold fromAd
    by_cases h : k = 8
    · subst h; rfl
    · rw [if_neg (by omega), if_neg h, Addr.add_mid]; simp
  rw [e3]
  simp

theorem Nums.take {w : World} {b : Nat} {x : List Nat} (h : Nums w b 0 x) (k : Nat) : Nums w b 0 (x.take k) := fun j hj => by
  have hj' : j < x.length := by simp at hj; omega
  rw [List.getElem_take]; exact h j hj'

theorem Nums.drop {w : World} {b : Nat} {x : List Nat} (h : Nums w b 0 x) (k : Nat) : Nums w b k (x.drop k) := fun j hj => by
  have hj' : k + j < x.length := by simp at hj; omega
  rw [List.getElem_drop]
  have := h (k + j) hj'
  rwa [Nat.zero_add] at this

theorem text6_same {x : List Nat} (h : (lrun x).1 = (lrun x).2) : text6 x = joined x := by rw [text6, if_pos h]
theorem text6_run {x : List Nat} (h : (lrun x).1 ≠ (lrun x).2) : text6 x = joined (x.take (lrun x).1) ++ ([58, 58] ++ joined (x.drop (lrun x).2)) := by rw [text6, if_neg h]

set_option maxHeartbeats 2000000 in
set_option maxRecDepth 100000 in
theorem text6_any (x : List Nat) (w : World) (hg : Gd w) (h8 : x.length = 8) (h16 : ∀ n ∈ x, n < 65536) :
    Calls Tryz.prog 45 #[agg8 x] w fun e w' => e = .returned (.string ⟨(text6 x).toArray⟩) ∧ Below w.heap.size w w' := by
  have hrow := heap_alloc_new w (.cells (cells16 x).toArray 34 (0, 0))
  have hi8 : (Tryz.prog.info? 34).map (·.size) = some (cells16 x).length := by rw [cells16_len, h8]; exact size8
  have HR0 := hid hrow
  have HG0 := hid (hg.kept ((Below.refl _ w).alloc (Nat.le_refl _) (.cells (cells16 x).toArray 34 (0, 0))))
  have HB0 := hid ((Below.refl _ w).alloc (Nat.le_refl _) (.cells (cells16 x).toArray 34 (0, 0)))
  have H16 := hid h16
  clear hg hrow h16
  unfold agg8
  go_enter Tryz.func45, Tryz.ntmps45
  go_wp2_with (refine wpList_load_mid rfl 34 (.tmp 1) rfl w.heap.size 0 rfl (cells16 x) _ (range_row HR0.out) Tryz.underlying34 rfl hi8 ?_)
  refine (longestRun_any x _ h8).mono ?_
  rintro e w1 ⟨rfl, hb1⟩
  have HN1 := hid ((nums_row HR0.out).kept hb1)
  have HG1 := hid (HG0.out.kept hb1)
  have HB1 := hid (below2 HB0.out hb1)
  clear hb1
  obtain ⟨hle1, hle2⟩ := lrun_le x
  obtain ⟨fr, hfr⟩ : ∃ fr, fr = (lrun x).1 := ⟨_, rfl⟩
  obtain ⟨to, hto⟩ : ∃ to, to = (lrun x).2 := ⟨_, rfl⟩
  rw [← hfr, ← hto] at hle1
  rw [← hto, h8] at hle2
  rw [← hfr, ← hto]
  have HFr := hid hfr
  have HTo := hid hto
  clear hfr hto
  by_cases hft : fr = to
  · have HT := hid (text6_same (x := x) (by rw [← HFr.out, ← HTo.out]; exact hft))
    have hft' : ((fr : Int) == (to : Int)) = true := by rw [hft]; simp
    have HJ := hid (show Calls Tryz.prog 67 #[.slice (some ⟨w.heap.size, 0, none⟩) 8 8] w1 fun e w' => e = .returned (.string ⟨(joined x).toArray⟩) ∧ Below w1.heap.size w1 w' by
      have := joined_any w.heap.size 0 8 x w1 HG1.out (by omega) (by omega) H16.out HN1.out
      rw [h8] at this
      exact this)
    go_wp2_with (go_at_call 67; refine HJ.out.mono ?_; rintro e w2 ⟨rfl, hb2⟩)
    go_ret
    rw [HT.out]
    exact ⟨rfl, below2 HB1.out hb2⟩
  · have HT := hid (text6_run (x := x) (by rw [← HFr.out, ← HTo.out]; exact hft))
    rw [← HFr.out, ← HTo.out] at HT
    have hft' : ((fr : Int) == (to : Int)) = false := by rw [beq_eq_false_iff_ne]; omega
    have HJ1 := hid (show ∀ W, Below w1.heap.size w1 W → Calls Tryz.prog 67 #[.slice (some ⟨w.heap.size, 0, none⟩) fr 8] W fun e w' => e = .returned (.string ⟨(joined (x.take fr)).toArray⟩) ∧ Below W.heap.size W w' by
      intro W hW
      have hl : (x.take fr).length = fr := by simp; omega
      have := joined_any w.heap.size 0 8 (x.take fr) W (HG1.out.kept hW) (by omega) (by omega) (fun n hn => H16.out n (List.mem_of_mem_take hn)) ((HN1.out.kept hW).take fr)
      rw [hl] at this
      exact this)
    have HJ2 := hid (show ∀ W, Below w1.heap.size w1 W → Calls Tryz.prog 67 #[.slice (some (fromAd w.heap.size to)) (8 - to) (8 - to)] W fun e w' => e = .returned (.string ⟨(joined (x.drop to)).toArray⟩) ∧ Below W.heap.size W w' by
      intro W hW
      have hl : (x.drop to).length = 8 - to := by simp; omega
      by_cases ht : to = 8
      · have hx0 : x.drop to = [] := List.drop_eq_nil_of_le (by omega)
        have := joined_any w.heap.size 0 0 ([] : List Nat) W (HG1.out.kept hW) (by simp) (by simp) (by simp) (by intro j hj; simp at hj)
        rw [hx0, fromAd, if_pos ht, ht]
        exact this
      · have := joined_any w.heap.size to (8 - to) (x.drop to) W (HG1.out.kept hW) (by omega) (by omega) (fun n hn => H16.out n (List.mem_of_mem_drop hn)) ((HN1.out.kept hW).drop to)
        rw [hl] at this
        rw [fromAd, if_neg ht]
        exact this)
    have hs1 := slice8_to w.heap.size fr (by omega)
    have hs2 := slice8_rest w.heap.size to (by omega)
    have hj1 := joined_le (x.take fr)
    have hj2 := joined_le (x.drop to)
    have hl1 : (x.take fr).length ≤ 8 := by simp; omega
    have hl2 : (x.drop to).length ≤ 8 := by simp; omega
    have hj1' : (joined (x.take fr)).length ≤ 48 := by omega
    have hj2' : (joined (x.drop to)).length ≤ 48 := by omega
    clear hj1 hj2 hl1 hl2
    generalize joined (x.take fr) = A at *
    generalize joined (x.drop to) = B at *
    generalize fromAd w.heap.size to = ad2 at *
    generalize 8 - to = r2 at *
    go_wp2
    go_region_with (first | (go_at_call 67; refine (HJ2.out _ ((Below.refl _ w1).drew.trans (hb2.mono (Nat.le_refl _)))).mono ?_; rintro e w3 ⟨rfl, hb3⟩) | (go_at_call 67; refine (HJ1.out _ (Below.refl _ w1).drew).mono ?_; rintro e w2 ⟨rfl, hb2⟩))
    all_goals
      go_wp2
      go_ret
      rw [HT.out]
      refine ⟨?_, below2 (below2 (below2 HB1.out ((Below.refl _ w1).drew)) hb2) hb3⟩
      have e : (⟨A.toArray⟩ : ByteArray) ++ ⟨#[58, 58]⟩ ++ ⟨B.toArray⟩ = ⟨(A ++ ([58, 58] ++ B)).toArray⟩ := by
        rw [show (⟨#[58, 58]⟩ : ByteArray) = ⟨[58, 58].toArray⟩ from rfl, ba_app, ba_app, List.append_assoc]
      rw [← e]
      rfl

end Go.Proofs.YtdpihilikhbamaaGreatDoor
