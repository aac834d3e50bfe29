/-
  The walk of headers.Sorted.
-/
import Derived.Test.YtplabofdcnpcpaaDoorZBe
set_option linter.unusedSimpArgs false
set_option linter.unusedVariables false
namespace Go.Proofs.YtplabofdcnpcpaaDoor
open Go.RowKit

/-- Out of the headers R, in order, come the headers O. -/
inductive Bld : List Hd → List Hd → Prop
  | nil : Bld [] []
  | step {R O : List Hd} (k : Nat) (h : Tog R k) (hO : Bld (R.drop k) O) : Bld R (⟨nmAt R 0, getT (R.take k) (nmAt R 0)⟩ :: O)

/-- What headers.Sorted may answer to L. -/
def SortsTo (L O : List Hd) : Prop := ∃ M, M.length = L.length ∧ Stab (lowH L) M ∧ Srt M M.length ∧ Bld M O

theorem Stab.mem {A B : List Hd} (h : Stab A B) {x : Hd} (hx : x ∈ B) : x ∈ A := by
  have : x ∈ B.filter (fun y => y.name == x.name) := List.mem_filter.2 ⟨hx, by simp⟩
  rw [h] at this
  exact (List.mem_filter.1 this).1

theorem low_len5 (l : List UInt8) : (low l).length = l.length := by simp [low]

theorem lowH_szd {n : Nat} {L : List Hd} (h : Szd n L) : Szd n (lowH L) := by
  intro x hx
  obtain ⟨y, hy, rfl⟩ := List.mem_map.1 hx
  exact ⟨by show (low y.name).length ≤ n; rw [low_len5]; exact (h y hy).1, (h y hy).2⟩

theorem bulkV_szd {n : Nat} : ∀ {L : List Hd}, Szd n L → bulkV L ≤ L.length * (n + 2)
  | [], _ => by simp [bulkV]
  | x :: L, h => by
    have h1 := bulkV_szd (L := L) (fun y hy => h y (List.mem_cons_of_mem _ hy))
    have h2 := (h x List.mem_cons_self).2
    show x.value.length + 2 + bulkV L ≤ (L.length + 1) * (n + 2)
    rw [Nat.succ_mul]
    omega

theorem szd_sub {n : Nat} {L M : List Hd} (h : Szd n L) (hs : ∀ x ∈ M, x ∈ L) : Szd n M := fun x hx => h x (hs x hx)

def slLen : Value → Nat
  | .slice _ n _ => n
  | _ => 0

set_option maxHeartbeats 4000000 in
set_option maxRecDepth 100000 in
theorem sorted_any (v : Value) (L : List Hd) (w : World) (h : HdAt w v L) (hl : L.length ≤ 20) (hz : Szd 1000000000 L) :
    Calls Tryd.prog 11 #[v] w fun e w' => ∃ v' O, e = .returned v' ∧ w'.ownsRow w.heap.size 38 2 v' O.length (cellsH O) ∧ SortsTo L O ∧ Below w.heap.size w w' := by
  obtain ⟨i0, hi, hz0, hz1, hz2⟩ := info3 infoHd
  have HL := hid (lowered_any v L w h (by omega) (fun x hx => ⟨Nat.le_trans (hz x hx).1 (by decide), Nat.le_trans (hz x hx).2 (by decide)⟩))
  have HZ := hid (lowH_szd hz)
  clear h hz
  go_enter Tryd.func11, Tryd.ntmps11
  go_wp2_with fail
  refine HL.out.mono ?_
  rintro e w1 ⟨g, rfl, hr1, hg1, hb1⟩
  have hlen : (lowH L).length = L.length := by simp [lowH]
  have HSt := hid (sortStable_any g (lowH L) w1 hr1 (by omega))
  rw [hlen] at HSt
  go_wp2_with fail
  refine HSt.out.mono ?_
  rintro e w2 ⟨rfl, M, hr2, hM, hstab, hsrt, hb2⟩
  obtain ⟨N, hN⟩ : ∃ N, N = L.length := ⟨_, rfl⟩
  rw [hlen, ← hN] at hM
  rw [← hN] at hl ⊢
  have HM := hid hM
  have HStab := hid hstab
  have HSrt := hid hsrt
  have HR := hid hr2
  have hbW := hid (show Below w.heap.size w w2 from hb1.trans (hb2.mono hg1))
  have HMz := hid (szd_sub HZ.out (fun x hx => hstab.mem hx))
  have hwW := hbW.out.size
  have HAt := hid (show HdAt w2 (.slice (some ⟨g, 0, none⟩) N N) M by have := hr2.at (by unfold maxLen; omega); rw [hM] at this; exact this)
  clear hM hstab hsrt hr2 hb2 hb1 hr1 HL HSt
  go_wp2
  go_loopw [3, 4] (fun rest out wr => ∃ (o c : Nat) (R O : List Hd), rest = .slice (some ⟨g, o, none⟩) R.length c ∧ HdAt w2 (.slice (some ⟨g, o, none⟩) R.length c) R ∧ (∀ O', Bld R O' → Bld M (O ++ O')) ∧ (∀ x ∈ R, x ∈ M) ∧ O.length + R.length ≤ 20 ∧ wr.ownsRow w2.heap.size 38 2 out O.length (cellsH O) ∧ Below w2.heap.size w2 wr)
    (fun rest _ _ => slLen rest)
  case atStart => exact ⟨0, N, M, [], by rw [HM.out, hN], by rw [HM.out]; exact HAt.out, fun O' h => h, fun x hx => hx, by rw [HM.out]; simpa using hl, World.ownsRow_nil _ _ _ _, Below.refl _ _⟩
  case round =>
    obtain ⟨o, c, R, O, rfl, hat, hbld, hsub, hOR, hown, hbw⟩ := hrel
    have HA := hid hat
    have HBl := hid hbld
    have HSub := hid hsub
    have HO := hid hown
    have hwr := hbw.size
    have HRz := hid (szd_sub HMz.out hsub)
    clear hat hbld hsub hown
    by_cases h0 : R.length = 0
    · have hR : R = [] := List.eq_nil_of_length_eq_zero h0
      subst hR
      have HF := hid (show Bld M O by have := HBl.out [] .nil; rwa [List.append_nil] at this)
      have hg0 : ¬ (0 : Int) < 0 := by decide
      go_wp2
      go_ret
      refine ⟨_, rfl, O, ?_, ⟨M, HM.out.trans hN, HStab.out, HSrt.out, HF.out⟩, hbW.out.trans (hbw.mono hwW)⟩
      rcases HO.out.2 with ⟨h1, h2⟩ | ⟨g', cap, cur, e1, e2, e3⟩
      · exact ⟨HO.out.1, .inl ⟨h1, h2⟩⟩
      · exact ⟨HO.out.1, .inr ⟨g', cap, cur, e1, Nat.le_trans hwW e2, e3⟩⟩
    · have hpos : 1 ≤ R.length := by omega
      have hpos' : (0 : Int) < (R.length : Int) := by omega
      have HTo := hid (together_any g o c R wr (HA.out.kept hbw) (by omega) hpos)
      go_wp2_with fail
      refine HTo.out.mono ?_
      rintro e w3 ⟨k, rfl, htog, hb3⟩
      have HTog := hid htog
      have hk1 : 1 ≤ k := htog.1
      have hkR : k ≤ R.length := htog.2.1
      have hb3W : Below w2.heap.size w2 w3 := hbw.trans (hb3.mono hwr)
      have HO3 := hid (own_same HO.out hb3)
      obtain ⟨a1, c1, e0, hc1, hm1, hv1⟩ := (HA.out.kept hb3W).view
      cases e0
      obtain ⟨b, off, e0, p0, -⟩ := hv1 0 (by omega)
      cases e0
      obtain ⟨n0, hn0⟩ : ∃ x : ByteArray, x = ⟨R[0].name.toArray⟩ := ⟨_, rfl⟩
      have HN0 := hid (show n0.data.toList = nmAt R 0 by rw [hn0]; simp [nmAt, List.getD, show 0 < R.length by omega])
      have hns : n0.size ≤ 1000000000 := by rw [hn0, xsize]; exact (HRz.out _ (List.getElem_mem _)).1
      rw [← hn0] at p0
      rw [Nat.zero_mul, Nat.add_zero] at p0
      clear hn0 hv1 htog HTo
      have hkc : (k : Int) ≤ (c : Int) := by omega
      have hk0 : (0 : Int) ≤ (k : Int) := by omega
      have hkR' : (k : Int) ≤ (R.length : Int) := by omega
      have hRc : (R.length : Int) ≤ (c : Int) := by omega
      have HG := hid (get_any (.slice (some ⟨g, o, none⟩) k c) (R.take k) n0 w3 (hd_take (HA.out.kept hb3W) k hkR) (by omega)
        (fun x hx => ⟨Nat.le_trans (HRz.out x (List.mem_of_mem_take hx)).1 (by decide), Nat.le_trans (HRz.out x (List.mem_of_mem_take hx)).2 (by decide)⟩)
        (by simp; omega) (by
          have h1 := bulkV_szd (L := R.take k) (szd_sub HRz.out (fun x hx => List.mem_of_mem_take hx))
          have h2 : (R.take k).length ≤ 20 := by rw [List.length_take]; omega
          have h3 : (R.take k).length * (1000000000 + 2) ≤ 20 * (1000000000 + 2) := Nat.mul_le_mul_right _ h2
          omega))
      go_wp2_with fail
      refine HG.out.mono ?_
      rintro e w4 ⟨rfl, hb4⟩
      have hb4W : Below w2.heap.size w2 w4 := hb3W.trans (hb4.mono hb3W.size)
      have HO4 := hid (own_same HO3.out hb4)
      obtain ⟨V, hV⟩ : ∃ x : ByteArray, x = ⟨(getT (R.take k) n0.data.toList).toArray⟩ := ⟨_, rfl⟩
      have HV := hid (show (⟨n0.data.toList, V.data.toList⟩ : Hd) = ⟨nmAt R 0, getT (R.take k) (nmAt R 0)⟩ by rw [hV, ← HN0.out])
      rw [← hV]
      have hw4 := hb4W.size
      clear hV HG
      go_wp2_with (at_builtin; go_must (refine wpList_append_own _ rfl _ _ 22 rfl w2.heap.size 38 i0 _ 2 32 Tryd.underlying22 hi hz0 hz1 hz2 rfl (by decide) _ _ _ rfl (HO4.out.alloc _) ⟨w4.heap.size, 0, none⟩ 1 1 [.string n0, .string V] rfl rfl ?c1 ?c2 ?c3 ?c4 ?c5 ?_))
      case c1 =>
        intro q u hq
        match q, hq with
        | 0, hq => simp at hq; subst hq; simp [Addr.add]
        | 1, hq => simp at hq; subst hq; simp [Addr.add]
      case c2 => intro u hu; simp at hu; rcases hu with rfl | rfl <;> rfl
      case c3 => unfold maxLen; omega
      case c4 => omega
      case c5 => simp; omega
      intro v' w5 hown' hgrow hnil
      have HO5 := hid (show w5.ownsRow w2.heap.size 38 2 v' (O ++ [(⟨nmAt R 0, getT (R.take k) (nmAt R 0)⟩ : Hd)]).length (cellsH (O ++ [(⟨nmAt R 0, getT (R.take k) (nmAt R 0)⟩ : Hd)])) by
        rw [← HV.out, cellsH_app, List.length_append]
        exact hown')
      have HB5 := hid (show Below w2.heap.size w2 w5 from (hb4W.alloc hw4 _).grown hgrow (by simp; omega) (fun g hg => (HO4.out.lt g hg).1))
      clear hown' hgrow hnil
      have HBl2 := hid (show ∀ O', Bld (R.drop k) O' → Bld M ((O ++ [(⟨nmAt R 0, getT (R.take k) (nmAt R 0)⟩ : Hd)]) ++ O') from fun O' h => by
        rw [List.append_assoc]
        exact HBl.out _ (.step k HTog.out h))
      have hdl : (R.drop k).length = R.length - k := List.length_drop
      by_cases hce : c = k
      · have HTL : Hid (HdAt w2 (.slice (some ⟨g, o, none⟩) (R.length - k) (c - k)) (R.drop k)) := hid (by
          rw [show R.drop k = [] from List.drop_eq_nil_of_le (by omega)]
          exact ⟨some ⟨g, o, none⟩, c - k, by rw [show R.length - k = 0 by omega]; rfl, by simp, by omega, fun j hj => by simp at hj⟩)
        have hcet : (c = k) = True := by simp [hce]
        clear hce
        go_wp2
        go_roundw
        case rel => exact ⟨o, c - k, R.drop k, O ++ [(⟨nmAt R 0, getT (R.take k) (nmAt R 0)⟩ : Hd)], by rw [hdl], by rw [hdl]; exact HTL.out, HBl2.out, fun x hx => HSub.out x (List.mem_of_mem_drop hx), by rw [hdl, List.length_append]; simp; omega, HO5.out, HB5.out⟩
        case measure => simp [slLen]; omega
      · have HTL := hid (hd_drop HA.out k hkR)
        go_wp2
        go_roundw
        case rel => exact ⟨o + k * 2, c - k, R.drop k, O ++ [(⟨nmAt R 0, getT (R.take k) (nmAt R 0)⟩ : Hd)], by rw [hdl], by rw [hdl]; exact HTL.out, HBl2.out, fun x hx => HSub.out x (List.mem_of_mem_drop hx), by rw [hdl, List.length_append]; simp; omega, HO5.out, HB5.out⟩
        case measure => simp [slLen]; omega

end Go.Proofs.YtplabofdcnpcpaaDoor
