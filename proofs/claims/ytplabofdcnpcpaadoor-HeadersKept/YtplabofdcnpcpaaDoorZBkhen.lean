/-
  The walk of ostiarybook's Keep: a list that is none.
-/
import Derived.Test.YtplabofdcnpcpaaDoorZBkhl
import Derived.BigRegion
set_option linter.unusedSimpArgs false
set_option linter.unusedVariables false
namespace Go.Proofs.YtplabofdcnpcpaaDoor
open Go.RowKit

set_option maxHeartbeats 4000000 in
set_option maxRecDepth 100000 in
theorem keephn (B p : Nat) (h : Int) (A Y : Value) (xs ys : List Value) (w : World) (hbk : Bkh w B p h A Y xs ys) (hn : xs.length ≤ 200) (hBw : B ≤ w.heap.size) :
    Calls Tryd.prog 9 #[.pointer (some ⟨p, 0, none⟩), Value.slice none 0 0] w fun e w' => e = .returned (.tuple #[]) ∧ KPh w' B p (xs ++ [Value.slice none 0 0]) ∧ Bt 22 p B w w' := by
  obtain ⟨i0, hi, hz0, hz1, hz2⟩ := info_parts infoLsh
  obtain ⟨j0, ji, jz0, jz1, jz2⟩ := info_parts infoEh
  have HBK := hid hbk
  have HBP := hid hbk.1
  have hlt := hbk.lt
  have c0 : w.cell? ⟨p, 0, none⟩ = some A := cell_of_heapE hbk.2.2.1 0 _ rfl
  have HA := hid hbk.2.2.2.1
  clear hbk
  go_enter Tryd.func9, Tryd.ntmps9
  go_wp2_with (at_builtin; refine wpList_append_slw _ rfl _ _ 24 rfl B 22 i0 (.slice none 0 0) Tryd.underlying24 hi hz0 hz1 hz2 rfl A xs rfl (HA.out.alloc0 _) ⟨w.heap.size, 0, none⟩ 1 (Value.slice none 0 0) rfl (by simp [Addr.add]) rfl (by omega) (by simp; omega) ?_)
  intro AA w2 hAA hgrow hwh
  obtain ⟨a1, k1, hAe, hk1⟩ := hAA.form
  subst hAe
  obtain ⟨N, hN⟩ : ∃ N, N = (xs ++ [Value.slice none 0 0]).length := ⟨_, rfl⟩
  have HN := hid hN
  rw [← hN] at hAA hwh hk1 ⊢
  obtain ⟨q1, q2, q3, q4, q5, q6, q7⟩ := add1h HBK.out hBw hAA hgrow (hwh.imp id fun ⟨k, e, hk⟩ => ⟨k, e, by first | omega | (simp at hk; omega)⟩)
  have d0 : w2.cell? ⟨p, 0, none⟩ = some A := cell_of_heapE q1 0 _ rfl
  have f0 : w2.frozen? ⟨p, 0, none⟩ = false := Lib.frozen_of_heap q1 0
  clear hAA hgrow hwh c0 q1 hN
  go_wp2_with fail
  obtain ⟨w3, hw3⟩ : ∃ w3, w3 = w2.setCell ⟨p, 0, none⟩ (.slice a1 N k1) := ⟨_, rfl⟩
  rw [← hw3] at q2 q3 q4 q6 q7 ⊢
  clear hw3 d0 f0
  have c1 : w3.cell? ⟨p, 1, none⟩ = some Y := cell_of_heapE q2 1 _ rfl
  have HQ2 := hid q2
  have HQ3 := hid q3
  have HQ4 := hid q4
  have HQ5 := hid q5
  have HQ6 := hid q6
  have HQ7 := hid q7
  have hBw3 : B ≤ w3.heap.size := Nat.le_trans hBw q7.1.size
  have hlt3 : p < w3.heap.size := (Array.getElem?_eq_some_iff.1 q2).1
  have HYL := hid (show ys.length = xs.length from HBK.out.2.1)
  have hyn : ys.length ≤ 200 := by have := HYL.out; omega
  clear q2 q3 q4 q5 q6 q7
  go_region_law (first | (refine step_append_slw rfl (.tmp 18) (.tmp 21) 24 rfl B 22 i0 (.slice none 0 0) Tryd.underlying24 hi hz0 hz1 hz2 rfl Y ys rfl (by exact HQ4.out.alloc0 _) ⟨w3.heap.size, 0, none⟩ 1 (.slice none 0 0) rfl (by simp [Addr.add]) rfl (by omega) (by simp; omega) ?_; intro YY w5 hY5 hgrow5 hwh5; obtain ⟨a2, k2, hYe, hk2⟩ := hY5.form; rw [show (ys ++ [Value.slice none 0 0]).length = ys.length + 1 by simp] at hYe; subst hYe; obtain ⟨r1, r2, r3, r4, r5, r6, r7, r8⟩ := add2h (w3 := w3) (w4 := w3) HBP.out HQ2.out HQ3.out HQ4.out HQ5.out hBw3 (World.grownBy.refl w3 none) (KpL.nil 2 38 w3 B) hY5 ⟨hgrow5.os, hgrow5.tape, hgrow5.output, hgrow5.size, hgrow5.block⟩ (hwh5.imp id fun ⟨k, e, hk⟩ => ⟨k, e, by first | omega | (simp at hk; omega)⟩); have e1 := cell_of_heapE r1 1 Y rfl; have f1 := Lib.frozen_of_heap r1 1))
  all_goals
    have HBK6 := hid (add3h (n := 0) (L := []) HBK.out (KpL.nil 2 38 w B) (by decide) (fun a _ => by unfold AptV; cases a.ownBlock with | none => exact .inl rfl | some k => exact .inr (by simp [Value.ownBlock])) HQ6.out r6 r7 r2 r3 r4 r5)
    have HB6 := hid (HQ7.out.trans r8)
    obtain ⟨w6, hw6⟩ : ∃ w6, w6 = w5.setCell ⟨p, 1, none⟩ (.slice a2 (ys.length + 1) k2) := ⟨_, rfl⟩
    rw [← hw6] at HBK6 HB6 ⊢
    have c2 : w6.cell? ⟨p, 2, none⟩ = some (.int .i64 h) := cell_of_heapE HBK6.out.2.2.1 2 _ rfl
    have f2 : w6.frozen? ⟨p, 2, none⟩ = false := Lib.frozen_of_heap HBK6.out.2.2.1 2
    clear hw6 r1 r2 r3 r4 r5 r6 r7 r8 e1 f1 hY5 hgrow5 hwh5 hk2 c1 HQ2 HQ3 HQ4 HQ5 HQ6 HQ7
    go_wp2_with fail
    obtain ⟨H, hH⟩ : ∃ H, wrap64 (wrap64 h + 1) = H := ⟨_, rfl⟩
    rw [hH]
    clear hH
    have HBK7 := hid (HBK6.out.turn (heap_setCell_same w6 p 2 _ _ (.int .i64 H) HBK6.out.2.2.1) fun k _ hne => heap_setCell_other w6 ⟨p, 2, none⟩ k (.int .i64 H) hne)
    have HB7 := hid (HB6.out.set HBP.out 2 (.int .i64 H))
    obtain ⟨w7, hw7⟩ : ∃ w7, w7 = w6.setCell ⟨p, 2, none⟩ (.int .i64 H) := ⟨_, rfl⟩
    rw [← hw7] at HBK7 HB7 ⊢
    clear hw7 c2 f2 HBK6 HB6
    have HKP := hid (show KPh w7 B p (xs ++ [Value.slice none 0 0]) from ⟨H, _, _, _, _, 0, ⟨by simp, rfl⟩, HBK7.out⟩)
    clear HBK7
    refine wp_cut0 (klooph B p (xs ++ [Value.slice none 0 0]) w w7 _ _ _ _ _ _ _ _ _ _ _ _ _ _ _ _ _ _ _ _ _ _ _ _ _ _ _ _ _ _ _ _ _ _ _ _ _ _ _ _ _ _ _ _ _ _ _ _ _ _ _ _ _ _ _ _ _ _ _ _ _ _ _ _ _ _ _ _ _ _ _ _ _ _ _ _ _ _ _ _ _ _ _ _ _ _ _ _ _ _ _ _ _ _ _ _ _ _ _ _ _ _ _ _ _ _ _ _ _ _ _ _ (by simp; omega) HKP HBP HB7 ?_)
    intro u36 u37 u38 u39 u40 u41 u42 u43 u44 u45 u46 u47 u48 u49 u50 u51 u52 u53 u54 u55 u56 u57 u58 u59 u60 u61 u62 u63 u64 u65 u66 u67 u68 u69 u70 u71 u72 u73 u74 u75 u76 u77 u78 u79 u80 u81 u82 u83 u84 u85 u86 u87 u88 u89 u90 u91 u92 u93 u94 u95 u96 u97 u98 u99 u100 u101 u102 u103 u104 u105 u106 u107 u108 u109 u110 u111 w8 hkp hbw
    have HKP8 := hid hkp
    have HBW8 := hid hbw
    clear hkp hbw
    go_wp2_with fail
    go_end0
    exact ⟨rfl, HKP8.out, HBW8.out⟩

end Go.Proofs.YtplabofdcnpcpaaDoor
