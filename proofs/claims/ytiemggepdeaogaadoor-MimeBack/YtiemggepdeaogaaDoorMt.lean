/-
  The walk of the law MimeBack.
-/
import Derived.Test.YtiemggepdeaogaaDoorMs
import Derived.Test.YtiemggepdeaogaaDoorXq
set_option linter.unusedSimpArgs false
set_option linter.unusedVariables false
namespace Go.Proofs.YtiemggepdeaogaaDoor
open Go.RowKit

theorem once_at {ps : List Hd} (h : Once ps) (i k : Nat) (hi : i < ps.length) (hk : k < i) : ps[k].name ≠ ps[i].name := by
  exact List.pairwise_iff_getElem.1 h k i (by omega) hi hk

set_option maxHeartbeats 4000000 in
set_option maxRecDepth 100000 in
theorem mimeBack_walk (s0 : ByteArray) (w : World) (hs0 : s0.size ≤ 140737488351232) (hG : G5 w) :
    Calls Tryd.prog 5 #[.string s0] w fun e w' => e = .returned (.bool true) ∧ Below w.heap.size w w' := by
  have HG := hid hG
  clear hG
  have HF := hid (xfew_any s0 500 w (by omega) (by omega))
  obtain ⟨s, hs⟩ : ∃ s : ByteArray, (⟨(s0.data.toList.take 500).toArray⟩ : ByteArray) = s := ⟨_, rfl⟩
  have hsl : s.size ≤ 500 := by rw [← hs, xsize, List.length_take]; omega
  rw [hs] at HF
  clear hs
  have hkl := kn_len s.data.toList
  rw [← Lib.size_eq] at hkl
  have hln := txt_small s.data.toList (by rw [← Lib.size_eq]; omega)
  have HP := hid (parse6_any s w HG.out (by omega))
  unfold KnPost at HP
  go_enter Tryd.func5, Tryd.ntmps5
  go_wp2_with fail
  refine HF.out.mono ?_
  rintro e w0 ⟨rfl, rfl⟩
  go_wp2_with fail
  refine HP.out.mono ?_
  rintro e w1 ⟨v, rfl, ho1, hb1⟩
  obtain ⟨q1, q2, q3, rfl⟩ := own_slice ho1
  unfold knVal
  cases hok : knOk s.data.toList with
  | false =>
    have hkn : knV s.data.toList = knNone := by unfold knV; rw [hok]; rfl
    rw [hkn] at ho1 ⊢
    have hB1 := hb1.alloc hb1.size (.cells #[.string (ba knNone.major), .string (ba knNone.minor), .slice q1 q2 q3] 28)
    have HB1 := hid hB1
    have hq2 : q2 = 0 := by
      rcases ho1.2 with ⟨hv, _⟩ | ⟨g, cap, cur, hv, _⟩
      · cases hv; rfl
      · cases hv; rfl
    subst hq2
    clear hB1 hb1 ho1 hkn
    rw [show ba knNone.major = ⟨#[]⟩ from rfl, show ba knNone.minor = ⟨#[]⟩ from rfl] at *
    go_wp2_with fail
    refine (known6_any _ (HG.out.kept HB1.out)).mono ?_
    rintro e w2 ⟨rfl, hb2⟩
    go_wp2
    go_ret
    exact ⟨rfl, belowT HB1.out hb2⟩
  | true =>
    have HGd := hid (kn_good s.data.toList hok)
    have HKb := hid (kn_back _ HGd.out)
    generalize knV s.data.toList = t at *
    have HKA := hid (kat_new (t := t) ho1)
    have HBa := hid (hb1.alloc hb1.size (.cells #[.string (ba t.major), .string (ba t.minor), .slice q1 q2 q3] 28))
    obtain ⟨T1, T2⟩ : Tri (w1.alloc (.cells #[.string (ba t.major), .string (ba t.minor), .slice q1 q2 q3] 28)) w1.heap.size (ba t.major) (ba t.minor) (.slice q1 q2 q3) ∧ HdAt (w1.alloc (.cells #[.string (ba t.major), .string (ba t.minor), .slice q1 q2 q3] 28)) (.slice q1 q2 q3) t.params := ⟨heap_alloc_new _ _, (own_hd ho1).kept ((Below.refl _ w1).alloc (Nat.le_refl _) _)⟩
    have HT1 := hid T1
    have HT2 := hid T2
    obtain ⟨y0, y1, y2⟩ := T1.cells
    obtain ⟨X, hX⟩ : ∃ X, ba (txtV t) = X := ⟨_, rfl⟩
    have hXs : X.size ≤ 400000000 := by rw [← hX, ba_size]; exact hln
    have HXl := hid (show X.data.toList = txtV t by rw [← hX]; rfl)
    have HTx : Hid (∀ Y, G5 Y → HdAt Y (.slice q1 q2 q3) t.params → Calls Tryd.prog 19 #[.agg #[.string (ba t.major), .string (ba t.minor), .slice q1 q2 q3]] Y fun e w' => e = .returned (.string X) ∧ Below Y.heap.size Y w') := fun Y hY hH => by
      rw [← hX]
      exact text6_any (ba t.major) (ba t.minor) _ t.params Y hY hH hln
    have HPx : Hid (∀ Y, G5 Y → Calls Tryd.prog 16 #[.string X] Y fun e w' => ∃ v, e = .returned (.tuple #[.agg #[.string (ba t.major), .string (ba t.minor), v], .bool true]) ∧ w'.ownsRow Y.heap.size 49 2 v t.params.length (cellsH t.params) ∧ Below Y.heap.size Y w') := fun Y hY => by
      have := parse6_any X Y hY (by omega)
      unfold KnPost at this
      rw [HXl.out, HKb.out.1, HKb.out.2] at this
      exact this
    have hpl : t.params.length ≤ 500 := by omega
    have Hpl := hid hpl
    clear hX hln hkl hok ho1 hb1 T1 T2 HP hpl
    go_wp2_with fail
    generalize (w1.alloc (.cells #[.string (ba t.major), .string (ba t.minor), .slice q1 q2 q3] 28)) = W at *
    generalize hpp : w1.heap.size = p at *
    refine (HTx.out _ (HG.out.kept HBa.out) HT2.out).mono ?_
    rintro e w3 ⟨rfl, hb3⟩
    have HB3 := hid (belowT HBa.out hb3)
    have HT3 := hid (HT1.out.kept hb3)
    have HH3 := hid (HT2.out.kept hb3)
    clear hb3 y0 y1 y2
    go_wp2_with fail
    refine (HPx.out _ (HG.out.kept HB3.out)).mono ?_
    rintro e w4 ⟨uv, rfl, ho4, hb4⟩
    obtain ⟨r1, r2, r3, rfl⟩ := own_slice ho4
    have HB4 := hid (belowT HB3.out hb4)
    have HT4 := hid ((HT3.out.kept hb4).kept ((Below.refl _ w4).alloc (Nat.le_refl _) (.cells #[.string (ba t.major), .string (ba t.minor), .slice r1 r2 r3] 28)))
    have HH4 := hid ((HH3.out.kept hb4).kept ((Below.refl _ w4).alloc (Nat.le_refl _) (.cells #[.string (ba t.major), .string (ba t.minor), .slice r1 r2 r3] 28)))
    have HU4 := hid ((own_hd ho4).kept ((Below.refl _ w4).alloc (Nat.le_refl _) (.cells #[.string (ba t.major), .string (ba t.minor), .slice r1 r2 r3] 28)))
    have HB5 := hid (HB4.out.alloc HB4.out.size (.cells #[.string (ba t.major), .string (ba t.minor), .slice r1 r2 r3] 28))
    have HS5 := hid (same6_self (.slice r1 r2 r3) (.slice q1 q2 q3) t.params _ HU4.out HH4.out (by have := Hpl.out; omega))
    obtain ⟨y0, y1, y2⟩ := HT4.out.cells
    clear ho4 hb4
    go_wp2_with fail
    generalize (w4.alloc (.cells #[.string (ba t.major), .string (ba t.minor), .slice r1 r2 r3] 28)) = W5 at *
    refine HS5.out.mono ?_
    rintro e w6 ⟨rfl, hb6⟩
    have HB6 := hid (belowT HB5.out hb6)
    have HT6 := hid (HT4.out.kept hb6)
    have HH6 := hid (HH4.out.kept hb6)
    clear hb6 y0 y1 y2
    obtain ⟨z1, z3, ez, hz2, hz3, hzv⟩ := HH6.out.view
    obtain ⟨rfl, rfl, rfl⟩ := Value.slice.inj ez
    have HZ := hid hzv
    have HOn := hid HGd.out.2.2.2.2.2
    generalize t.params = ps at *
    have hpl : ps.length ≤ 500 := Hpl.out
    clear ez hzv HH6 HGd HKb HXl HTx HPx HS5 HU4 HH4 HT4 HH3 HT3 HKA HT1 HT2
    go_wp2
    go_loopw [7] (fun i wr => ∃ k : Nat, k ≤ ps.length ∧ i = .int .i64 k ∧ Below w6.heap.size w6 wr) (fun i _ => ps.length - (intOf i).toNat)
    case atStart => exact ⟨0, Nat.zero_le _, rfl, Below.refl _ _⟩
    case round =>
      obtain ⟨i, hi, rfl, hbw⟩ := hrel
      have HBw := hid hbw
      have hT := HT6.out.kept hbw
      obtain ⟨y0, y1, y2⟩ := hT.cells
      clear hbw hT
      by_cases hlt : i < ps.length
      · have hlt' : (i : Int) < (ps.length : Int) := by omega
        obtain ⟨b1, o1, rfl, e1, _⟩ := HZ.out i hlt
        have He1 := hid e1
        clear e1
        go_wp2
        clear y0 y1 y2
        go_loopw [8] (fun j wr => ∃ k : Nat, k ≤ i ∧ j = .int .i64 k ∧ Below w6.heap.size w6 wr) (fun j _ => i - (intOf j).toNat)
        case atStart => exact ⟨0, Nat.zero_le _, rfl, HBw.out⟩
        case round =>
          obtain ⟨k, hk, rfl, hbk⟩ := hrel
          have HBk := hid hbk
          have hT := HT6.out.kept hbk
          obtain ⟨y0, y1, y2⟩ := hT.cells
          clear hbk hT
          by_cases hki : k < i
          · have hki' : (k : Int) < (i : Int) := by omega
            have hkl' : (k : Int) < (ps.length : Int) := by omega
            obtain ⟨b2, o2, e0, e2, _⟩ := HZ.out k (by omega)
            cases e0
            have f1 := (HBk.out.cell (World.block_lt_of_cell? w6 _ He1.out)).trans He1.out
            have f2 := (HBk.out.cell (World.block_lt_of_cell? w6 _ e2)).trans e2
            have hne := once_at HOn.out i k hlt hki
            obtain ⟨n1, hn1⟩ : ∃ n : ByteArray, (⟨ps[i].name.toArray⟩ : ByteArray) = n := ⟨_, rfl⟩
            obtain ⟨n2, hn2⟩ : ∃ n : ByteArray, (⟨(ps[k]'(by omega)).name.toArray⟩ : ByteArray) = n := ⟨_, rfl⟩
            rw [hn1] at f1
            rw [hn2] at f2
            have hq : (n2.toList == n1.toList) = false := by
              rw [beq_eq_false_iff_ne, Lib.toList_data, Lib.toList_data, ← hn1, ← hn2]
              exact hne
            clear e2 hne hn1 hn2
            go_wp2
            go_quiet (fail)
            go_wp2
            go_roundw
            case rel => exact ⟨k + 1, by omega, by go_num, below_drewN HBk.out _⟩
            case measure => simp [intOf]; omega
          · go_wp2
            go_roundw
            case rel => exact ⟨i + 1, by omega, by go_num, HBk.out⟩
            case measure => simp [intOf]; omega
      · go_wp2_with fail
        refine (known6_any _ (HG.out.kept (belowT HB6.out HBw.out))).mono ?_
        rintro e w9 ⟨rfl, hb9⟩
        go_wp2
        go_ret
        exact ⟨rfl, belowT (belowT HB6.out HBw.out) hb9⟩

end Go.Proofs.YtiemggepdeaogaaDoor
