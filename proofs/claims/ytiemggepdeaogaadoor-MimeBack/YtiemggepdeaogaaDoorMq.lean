/-
  The walk of the law MimeParams.
-/
import Derived.Test.YtiemggepdeaogaaDoorMp
set_option linter.unusedSimpArgs false
set_option linter.unusedVariables false
namespace Go.Proofs.YtiemggepdeaogaaDoor
open Go.RowKit

set_option maxRecDepth 100000 in
theorem wrd_tok {x : List UInt8} (h : Wrd x) : tokL x = true ∧ low x = x := by
  have key : ∀ c : UInt8, 97 ≤ c.toNat ∧ c.toNat ≤ 122 → tokC c = true ∧ lowC c = c := fun c hc => by
    have := byte_all (p := fun c => !(decide (97 ≤ c.toNat) && decide (c.toNat ≤ 122)) || (tokC c && lowC c == c)) (by decide) c
    simp [hc.1, hc.2] at this
    exact this
  refine ⟨tokL_of (fun c hc => (key c (wrd_mem h hc)).1) h.1, ?_⟩
  unfold low
  have : ∀ c ∈ x, lowC c = c := fun c hc => (key c (wrd_mem h hc)).2
  rw [List.map_congr_left this, List.map_id']

theorem fit_snoc (V : List UInt8) (c : UInt8) (h : fitV V = true) (hc : fitC c = true) : fitV (V ++ [c]) = true := by
  unfold fitV at *; rw [List.all_append, h]; simp [hc]

theorem hd_new6 (w : World) (L : List Hd) (t : TypeId) (hl : L.length ≤ 1000) : HdAt (w.alloc (.cells (cellsH L).toArray t)) (.slice (some ⟨w.heap.size, 0, none⟩) L.length L.length) L := by
  refine hd_of (Nat.le_refl _) (by unfold maxLen; omega) fun j hj => ?_
  have h := cellsH_at L j hj
  have hc : ∀ i, (w.alloc (.cells (cellsH L).toArray t)).cell? ⟨w.heap.size, i, none⟩ = (cellsH L)[i]? := fun i => by
    rw [Lib.cell_of_heap (heap_alloc_new w _)]; simp
  rw [Nat.zero_add, hc, hc]
  exact h

theorem same6_self (v1 v2 : Value) (L : List Hd) (w : World) (h1 : HdAt w v1 L) (h2 : HdAt w v2 L) (hl : L.length ≤ 1000000) :
    Calls Tryd.prog 25 #[v1, v2] w fun e w' => e = .returned (.bool true) ∧ Below w.heap.size w w' := by
  refine (same6_any v1 v2 L L w h1 h2 hl hl).mono ?_
  rintro e w' ⟨rfl, hb⟩
  exact ⟨by simp, hb⟩

def mpK (T V : List UInt8) : Kn := ⟨[97], [98], [⟨T, V⟩]⟩

theorem mpK_good (T V : List UInt8) (hT : Wrd T) (hV : fitV V = true) : GoodK (mpK T V) := by
  have h := wrd_tok hT
  refine ⟨show tokL [97] = true by decide, show low [97] = [97] by decide, show tokL [98] = true by decide, show low [98] = [98] by decide, ?_, List.pairwise_singleton _ _⟩
  intro p hp
  obtain rfl := List.mem_singleton.1 hp
  exact ⟨h.1, h.2, hV⟩

theorem mpK_len (T V : List UInt8) (hT : T.length ≤ 12) (hV : V.length ≤ 60) : (txtV (mpK T V)).length ≤ 10000 := by
  have := wrt_len V
  simp [txtV, essV, mpK, prmT]
  omega

set_option maxHeartbeats 4000000 in
set_option maxRecDepth 100000 in
theorem mimeParams_walk (name value : ByteArray) (w : World) (hn : name.size ≤ 140737488351232) (hv : value.size ≤ 140737488351232) (hG : G5 w) :
    Calls Tryd.prog 8 #[.string name, .string value] w fun e w' => e = .returned (.bool true) ∧ Below w.heap.size w w' := by
  have HG := hid hG
  clear hG
  go_enter Tryd.func8, Tryd.ntmps8
  go_wp2
  go_loop [5, 6] (fun o i => ∃ (k : Nat) (T : List UInt8), k ≤ value.size ∧ i = .int .i64 k ∧ o = .string ⟨T.toArray⟩ ∧ fitV T = true ∧ T.length ≤ 60) (fun o i => value.size - (intOf i).toNat)
  case atStart => exact ⟨0, [], Nat.zero_le _, rfl, rfl, rfl, by decide⟩
  case round =>
    obtain ⟨k, V, hk, rfl, rfl, hV, hVl⟩ := hrel
    have HV := hid hV
    clear hV
    by_cases hgo : k < value.size ∧ V.length < 60
    · obtain ⟨hlt, h60⟩ := hgo
      have hlt' : (k : Int) < (value.size : Int) := by omega
      have h60' : (V.length : Int) < 60 := by omega
      have HW := hid (word_app value k hlt V)
      have hwk : k + 1 ≤ value.size := by omega
      have hb := value[k].toNat_lt
      have HS := hid (fit_snoc V value[k] HV.out)
      go_wp2
      all_goals first
        | (go_round
           case rel => exact ⟨k + 1, V ++ [value[k]], by omega, by go_num, by rw [HW.out], HS.out (by unfold fitC; simp at *; omega), by simp; omega⟩
           case measure => simp [intOf]; omega)
        | (go_round
           case rel => exact ⟨k + 1, V, by omega, by go_num, rfl, HV.out, hVl⟩
           case measure => simp [intOf]; omega)
    · have hcs : ¬ (k : Int) < (value.size : Int) ∨ ((k : Int) < (value.size : Int) ∧ ¬ (V.length : Int) < 60) := by omega
      clear hgo
      rcases hcs with hc1 | ⟨hc1, hc2⟩
      all_goals
        go_wp2_with fail
        refine (word6_any name _ (by omega)).mono ?_
        rintro e w1 ⟨T, rfl, hT, hTl, rfl⟩
        have HT := hid hT
        clear hT
        have HH0 := hid (show HdAt (w.alloc (.cells #[.string ⟨T.toArray⟩, .string ⟨V.toArray⟩] 49)) (.slice (some ⟨w.heap.size, 0, none⟩) 1 1) [⟨T, V⟩] from hd_new6 w [⟨T, V⟩] 49 (by simp))
        have HB1 := hid (show Below w.heap.size w (w.alloc (.cells #[.string ⟨T.toArray⟩, .string ⟨V.toArray⟩] 49)) from (Below.refl _ w).alloc (Nat.le_refl _) _)
        obtain ⟨W1, hW1⟩ : ∃ W, w.alloc (.cells #[.string ⟨T.toArray⟩, .string ⟨V.toArray⟩] 49) = W := ⟨_, rfl⟩
        have hW1s : W1.heap.size = w.heap.size + 1 := by rw [← hW1]; simp
        rw [hW1] at HH0 HB1
        have HT2 := hid (show Tri (W1.alloc (.cells #[.string ⟨#[97]⟩, .string ⟨#[98]⟩, .slice (some ⟨w.heap.size, 0, none⟩) 1 1] 28)) (w.heap.size + 1) ⟨#[97]⟩ ⟨#[98]⟩ (.slice (some ⟨w.heap.size, 0, none⟩) 1 1) by rw [← hW1s]; exact heap_alloc_new _ _)
        have HB2 := hid (HB1.out.alloc HB1.out.size (.cells #[.string ⟨#[97]⟩, .string ⟨#[98]⟩, .slice (some ⟨w.heap.size, 0, none⟩) 1 1] 28))
        have HH2 := hid (HH0.out.kept ((Below.refl _ W1).alloc (Nat.le_refl _) (.cells #[.string ⟨#[97]⟩, .string ⟨#[98]⟩, .slice (some ⟨w.heap.size, 0, none⟩) 1 1] 28)))
        have HWe := hid hW1
        clear hW1s hW1
        have hln := mpK_len T V hTl hVl
        have HKb := hid (kn_back (mpK T V) (mpK_good T V HT.out HV.out))
        obtain ⟨X, hX⟩ : ∃ X, ba (txtV (mpK T V)) = X := ⟨_, rfl⟩
        have hXs : X.size ≤ 10000 := by rw [← hX, ba_size]; exact hln
        have HXl := hid (show X.data.toList = txtV (mpK T V) by rw [← hX]; rfl)
        have HTx : Hid (∀ Y, G5 Y → HdAt Y (.slice (some ⟨w.heap.size, 0, none⟩) 1 1) [⟨T, V⟩] → Calls Tryd.prog 19 #[.agg #[.string ⟨#[97]⟩, .string ⟨#[98]⟩, .slice (some ⟨w.heap.size, 0, none⟩) 1 1]] Y fun e w' => e = .returned (.string X) ∧ Below Y.heap.size Y w') := fun Y hY hH => by
          rw [← hX]
          exact text6_any ⟨#[97]⟩ ⟨#[98]⟩ _ [⟨T, V⟩] Y hY hH (Nat.le_trans hln (by omega))
        have HPx : Hid (∀ Y, G5 Y → Calls Tryd.prog 16 #[.string X] Y fun e w' => ∃ v, e = .returned (.tuple #[.agg #[.string ⟨#[97]⟩, .string ⟨#[98]⟩, v], .bool true]) ∧ w'.ownsRow Y.heap.size 49 2 v 1 (cellsH [⟨T, V⟩]) ∧ Below Y.heap.size Y w') := fun Y hY => by
          have := parse6_any X Y hY (by omega)
          unfold KnPost at this
          rw [HXl.out, HKb.out.1, HKb.out.2] at this
          exact this
        clear hln hX
        go_wp2_with fail
        rw [HWe.out]
        generalize (W1.alloc (.cells #[.string ⟨#[97]⟩, .string ⟨#[98]⟩, .slice (some ⟨w.heap.size, 0, none⟩) 1 1] 28)) = W2 at *
        refine (HTx.out _ (HG.out.kept HB2.out) HH2.out).mono ?_
        rintro e w3 ⟨rfl, hb3⟩
        have HB3 := hid (belowT HB2.out hb3)
        have HT3 := hid (HT2.out.kept hb3)
        have HH3 := hid (HH2.out.kept hb3)
        clear hb3
        go_wp2_with fail
        refine (HPx.out _ (HG.out.kept HB3.out)).mono ?_
        rintro e w4 ⟨uv, rfl, ho4, hb4⟩
        obtain ⟨q1, q2, q3, rfl⟩ := own_slice ho4
        have HB4 := hid (belowT HB3.out hb4)
        have HT4 := hid ((HT3.out.kept hb4).kept ((Below.refl _ w4).alloc (Nat.le_refl _) (.cells #[.string ⟨#[97]⟩, .string ⟨#[98]⟩, .slice q1 q2 q3] 28)))
        have HH4 := hid ((HH3.out.kept hb4).kept ((Below.refl _ w4).alloc (Nat.le_refl _) (.cells #[.string ⟨#[97]⟩, .string ⟨#[98]⟩, .slice q1 q2 q3] 28)))
        have HU4 := hid ((own_hd (L := [⟨T, V⟩]) ho4).kept ((Below.refl _ w4).alloc (Nat.le_refl _) (.cells #[.string ⟨#[97]⟩, .string ⟨#[98]⟩, .slice q1 q2 q3] 28)))
        have HB5 := hid (HB4.out.alloc HB4.out.size (.cells #[.string ⟨#[97]⟩, .string ⟨#[98]⟩, .slice q1 q2 q3] 28))
        have HS5 := hid (same6_self (.slice q1 q2 q3) (.slice (some ⟨w.heap.size, 0, none⟩) 1 1) [⟨T, V⟩] _ HU4.out HH4.out (by simp))
        obtain ⟨y0, y1, y2⟩ := HT4.out.cells
        clear ho4 hb4
        go_wp2_with fail
        generalize (w4.alloc (.cells #[.string ⟨#[97]⟩, .string ⟨#[98]⟩, .slice q1 q2 q3] 28)) = W5 at *
        refine HS5.out.mono ?_
        rintro e w6 ⟨rfl, hb6⟩
        have HB6 := hid (belowT HB5.out hb6)
        clear hb6
        go_wp2_with fail
        refine (known6_any _ (HG.out.kept HB6.out)).mono ?_
        rintro e w7 ⟨rfl, hb7⟩
        go_wp2
        go_ret
        exact ⟨rfl, belowT HB6.out hb7⟩

end Go.Proofs.YtiemggepdeaogaaDoor
