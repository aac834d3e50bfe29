/-
  The walk of ostiarybook's Apart at bytes.
-/
import Derived.Test.YtmjokddplikegaaDoorZWt
set_option linter.unusedSimpArgs false
set_option linter.unusedVariables false
namespace Go.Proofs.YtmjokddplikegaaDoor
open Go.RowKit

def gOf : Value → Nat
  | .slice (some a) _ _ => a.block
  | _ => 0
def nOf : Value → Nat
  | .slice _ n _ => n
  | _ => 0
def cOf : Value → Nat
  | .slice _ _ c => c
  | _ => 0

/-- A list that can be written full: the head of a block of its own, of a modest room. -/
def Fm (B : Nat) (x : Value) : Prop := x = .slice (some ⟨gOf x, 0, none⟩) (nOf x) (cOf x) ∧ nOf x ≤ cOf x ∧ cOf x ≤ 1000000 ∧ B ≤ gOf x

/-- The lists ahead of number t are written full with their marks, and so is list t as far as place m. -/
def Ap (w : World) (B p h : Nat) (A : Value) (xs : List Value) (t m : Nat) : Prop :=
  (∃ Y, w.heap[p]? = some (.cells #[A, Y, .int .i64 h, .bool false] 42 (0, 0))) ∧ w.ownsRow B 22 1 A xs.length xs ∧
  ∀ i (hi : i < xs.length), ∃ cur, w.heap[gOf xs[i]]? = some (.cells cur 5 (0, 0)) ∧ cur.size = cOf xs[i] ∧ ∀ j, j < cOf xs[i] → (i < t ∨ (i = t ∧ j < m)) → cur[j]? = some (.int .u8 (markI i j))

theorem Ap.mark {w : World} {B p h : Nat} {A : Value} {xs : List Value} {t m : Nat} (hap : Ap w B p h A xs t m) (ht : t < xs.length) (hfm : ∀ x ∈ xs, Fm B x) (hpw : xs.Pairwise (fun a b => a.ownBlock ≠ b.ownBlock)) :
    Ap (w.setCell ⟨gOf xs[t], m, none⟩ (.int .u8 (markI t m))) B p h A xs t (m + 1) := by
  obtain ⟨⟨Y, hp⟩, hA, hrows⟩ := hap
  obtain ⟨cur, hc, hcs, hmk⟩ := hrows t ht
  refine ⟨⟨Y, ?_⟩, ?_, ?_⟩
  · rw [heap_setCell_other w _ p _ (fun e => ?_), hp]
    simp only at e
    rw [← e, hp] at hc
    injection hc with hc
    injection hc with _ hc _
    exact absurd hc (by decide)
  · refine ownsRow_same hA fun k hk => heap_setCell_other w _ k _ (fun e => ?_)
    simp only at e
    subst e
    exact ownsRow_other hA hc (by decide) hk
  · intro i hi
    by_cases hit : i = t
    · subst hit
      refine ⟨cur.setIfInBounds m (.int .u8 (markI i m)), heap_setCell_same w _ m cur _ _ hc, by simpa using hcs, fun j hj hor => ?_⟩
      by_cases hjm : j = m
      · subst hjm
        simp [hcs, hj]
      · rw [Array.getElem?_setIfInBounds_ne (fun e => hjm e.symm)]
        exact hmk j hj (.inr ⟨rfl, by omega⟩)
    · obtain ⟨cur', hc', hcs', hmk'⟩ := hrows i hi
      refine ⟨cur', ?_, hcs', fun j hj hor => hmk' j hj (by omega)⟩
      rw [heap_setCell_other w _ _ _ (fun e => ?_), hc']
      simp only at e
      have h1 := (hfm xs[i] (List.getElem_mem hi)).1
      have h2 := (hfm xs[t] (List.getElem_mem ht)).1
      have hne : xs[i].ownBlock ≠ xs[t].ownBlock := by
        rcases Nat.lt_or_gt_of_ne hit with hl | hl
        · exact (List.pairwise_iff_getElem.1 hpw) i t hi ht hl
        · exact fun e => (List.pairwise_iff_getElem.1 hpw) t i ht hi hl e.symm
      rw [h1, h2] at hne
      exact hne (by simp [Value.ownBlock, e])

theorem Ap.next {w : World} {B p h : Nat} {A : Value} {xs : List Value} {t m : Nat} (hap : Ap w B p h A xs t m) (ht : t < xs.length) (hm : cOf xs[t] ≤ m) : Ap w B p h A xs (t + 1) 0 := by
  obtain ⟨hp, hA, hrows⟩ := hap
  refine ⟨hp, hA, fun i hi => ?_⟩
  obtain ⟨cur, hc, hcs, hmk⟩ := hrows i hi
  refine ⟨cur, hc, hcs, fun j hj hor => hmk j hj ?_⟩
  by_cases hit : i = t
  · subst hit
    exact .inr ⟨rfl, by omega⟩
  · left; omega

theorem Bk.ap {w : World} {B p h : Nat} {xs ys : List Value} {l : List UInt8} (hbk : Bk w B p h xs ys l) (hfm : ∀ x ∈ xs, Fm B x) (h0 : 0 < xs.length) : ∃ gA cA, Ap w B p h (.slice (some ⟨gA, 0, none⟩) xs.length cA) xs 0 0 := by
  obtain ⟨hBp, hyl, ⟨A, Y, hp, hA, hY, hAY⟩, hxs, hys, hpw⟩ := hbk
  have hA0 := hA
  rcases hA.2 with ⟨_, h0'⟩ | ⟨g', cap', cur, e, _⟩
  · omega
  · subst e
    refine ⟨g', cap', ⟨Y, hp⟩, hA0, fun i hi => ?_⟩
    have hx := hxs xs[i] (List.getElem_mem hi)
    have hf := (hfm xs[i] (List.getElem_mem hi)).1
    rcases hx.2 with ⟨e, _⟩ | ⟨g2, c2, cur2, e, _, hh, _, _, hsz, _⟩
    · rw [e] at hf; simp at hf
    · refine ⟨cur2, ?_, ?_, fun j _ hor => by omega⟩
      · rw [e]; exact hh
      · rw [e, hsz]; simp [cOf]

set_option maxHeartbeats 4000000 in
set_option maxRecDepth 100000 in
theorem apart_any (B p h : Nat) (xs ys : List Value) (l : List UInt8) (w : World) (hbk : Bk w B p h xs ys l) (hfm : ∀ x ∈ xs, Fm B x) (h0 : 0 < xs.length) (hn : xs.length ≤ 3000) (hl : l.length ≤ 1000000) (hBw : B ≤ w.heap.size) :
    Calls Tryd.prog 18 #[.pointer (some ⟨p, 0, none⟩), .func (.func 19) #[] #[]] w fun e w' => e = .returned (.bool true) ∧ Below B w w' := by
  go_enter Tryd.func18, Tryd.ntmps18
  go_wp2_with fail
  refine (stays_any B p h xs ys l w hbk hn hl hBw).mono ?_
  rintro e w1 ⟨rfl, hbk1, hb1⟩
  obtain ⟨gA, cA, hap1⟩ := hbk1.ap hfm h0
  have hBp := hbk1.1
  have hpw := hbk1.2.2.2.2.2
  clear hbk hbk1
  have HAP := hid hap1
  clear hap1
  go_wp2
  go_loopw [5] (fun i wr => ∃ k : Nat, k ≤ xs.length ∧ i = .int .i64 k ∧ Ap wr B p h (.slice (some ⟨gA, 0, none⟩) xs.length cA) xs k 0 ∧ Below B w wr) (fun i _ => xs.length - (intOf i).toNat)
  case atStart => exact ⟨0, Nat.zero_le _, rfl, HAP.out, hb1⟩
  case round =>
    obtain ⟨k, hk, rfl, hap, hbw⟩ := hrel
    have HA1 := hid hap
    obtain ⟨⟨Y, hp⟩, hA, hrows⟩ := hap
    have c0 := cell_of_heapE hp 0 _ rfl
    by_cases hlt : k < xs.length
    · have hltI : (k : Int) < (xs.length : Int) := by omega
      have hF := hfm xs[k] (List.getElem_mem hlt)
      have k1 := hA.cells (g := gA) rfl k xs[k] (by simp [hlt])
      rw [Addr.add_lit, Nat.zero_add, hF.1] at k1
      obtain ⟨G, hG⟩ : ∃ G, G = gOf xs[k] := ⟨_, rfl⟩
      obtain ⟨N, hN⟩ : ∃ N, N = nOf xs[k] := ⟨_, rfl⟩
      obtain ⟨C, hC⟩ : ∃ C, C = cOf xs[k] := ⟨_, rfl⟩
      have hb : N ≤ C ∧ C ≤ 1000000 ∧ B ≤ G := by rw [hG, hN, hC]; exact hF.2
      rw [← hG, ← hN, ← hC] at k1
      have HG := hid hG
      have HC := hid hC
      obtain ⟨hb1, hb2, hb3⟩ := hb
      clear hG hN hC hF hA hrows hp
      go_wp2
      go_quiet (fail)
      go_wp2
      go_loopw [7] (fun j wq => ∃ m : Nat, m ≤ C ∧ j = .int .i64 m ∧ Ap wq B p h (.slice (some ⟨gA, 0, none⟩) xs.length cA) xs k m ∧ Below B w wq) (fun j _ => C - (intOf j).toNat)
      case atStart => exact ⟨0, Nat.zero_le _, rfl, HA1.out, below_drewN hbw _⟩
      case round =>
        obtain ⟨m, hm, rfl, hap2, hbq⟩ := hrel
        have HA2 := hid hap2
        by_cases hmlt : m < C
        · have hmI : (m : Int) < (C : Int) := by omega
          obtain ⟨cur, hcur, hcs, _⟩ := hap2.2.2 k hlt
          rw [← HG.out] at hcur
          rw [← HC.out] at hcs
          obtain ⟨v0, hv0⟩ : ∃ v0, cur[m]? = some v0 := ⟨cur[m]'(by omega), by simp⟩
          have q1 := cell_of_heapE hcur m v0 hv0
          have q2 := Lib.frozen_of_heap hcur m
          clear hap2 hcur hcs hv0
          go_wp2_with (go_at_call 19; refine (mark_any k m _ (by omega) (by omega)).mono ?_; rintro e w' ⟨rfl, rfl⟩)
          go_roundw
          case rel =>
            refine ⟨m + 1, by omega, by go_num, ?_, hbq.setCell (p := ⟨G, m, none⟩) hb3 _⟩
            rw [HG.out]
            exact HA2.out.mark hlt hfm hpw
          case measure => simp [intOf]; omega
        · have hmI : decide ((m : Int) < (C : Int)) = false := by simp; omega
          clear hap2
          go_wp2
          go_roundw
          case rel => exact ⟨k + 1, by omega, by go_num, HA2.out.next hlt (by rw [← HC.out]; omega), hbq⟩
          case measure => simp [intOf]; omega
    · have hltI : decide ((k : Int) < (xs.length : Int)) = false := by simp; omega
      obtain rfl : k = xs.length := by omega
      clear hA hrows hp
      go_wp2
      go_loopw [8] (fun i wq => ∃ k : Nat, k ≤ xs.length ∧ i = .int .i64 k ∧ Ap wq B p h (.slice (some ⟨gA, 0, none⟩) xs.length cA) xs xs.length 0 ∧ Below B w wq) (fun i _ => xs.length - (intOf i).toNat)
      case atStart => exact ⟨0, Nat.zero_le _, rfl, HA1.out, hbw⟩
      case round =>
        obtain ⟨k, hk, rfl, hap, hbw2⟩ := hrel
        have HA2 := hid hap
        obtain ⟨⟨Y, hp⟩, hA, hrows⟩ := hap
        have c0 := cell_of_heapE hp 0 _ rfl
        by_cases hlt : k < xs.length
        · have hltI : (k : Int) < (xs.length : Int) := by omega
          have hF := hfm xs[k] (List.getElem_mem hlt)
          have k1 := hA.cells (g := gA) rfl k xs[k] (by simp [hlt])
          rw [Addr.add_lit, Nat.zero_add, hF.1] at k1
          obtain ⟨G, hG⟩ : ∃ G, G = gOf xs[k] := ⟨_, rfl⟩
          obtain ⟨N, hN⟩ : ∃ N, N = nOf xs[k] := ⟨_, rfl⟩
          obtain ⟨C, hC⟩ : ∃ C, C = cOf xs[k] := ⟨_, rfl⟩
          have hb : N ≤ C ∧ C ≤ 1000000 ∧ B ≤ G := by rw [hG, hN, hC]; exact hF.2
          rw [← hG, ← hN, ← hC] at k1
          have HG := hid hG
          have HC := hid hC
          obtain ⟨hb1, hb2, hb3⟩ := hb
          clear hG hN hC hF hA hrows hp
          go_wp2
          go_quiet (fail)
          go_wp2
          go_loopw [10] (fun j wz => ∃ m : Nat, m ≤ C ∧ j = .int .i64 m ∧ Ap wz B p h (.slice (some ⟨gA, 0, none⟩) xs.length cA) xs xs.length 0 ∧ Below B w wz) (fun j _ => C - (intOf j).toNat)
          case atStart => exact ⟨0, Nat.zero_le _, rfl, HA2.out, below_drewN hbw2 _⟩
          case round =>
            obtain ⟨m, hm, rfl, hap3, hbz⟩ := hrel
            have HA3 := hid hap3
            by_cases hmlt : m < C
            · have hmI : (m : Int) < (C : Int) := by omega
              obtain ⟨cur, hcur, hcs, hmk⟩ := hap3.2.2 k hlt
              have hv0 := hmk m (by rw [← HC.out]; exact hmlt) (.inl hlt)
              rw [← HG.out] at hcur
              have q1 := cell_of_heapE hcur m _ hv0
              clear hap3 hcur hcs hv0 hmk
              have HM := mark_any k m
              generalize markI k m = M at *
              go_wp2
              go_region_held (fun wx => wx.cell? ⟨G, m, none⟩ = some (.int .u8 M)) (go_keep) (first | (go_at_call 19; refine (HM _ (by omega) (by omega)).mono ?_; rintro e w' ⟨rfl, rfl⟩))
              go_wp2
              go_roundw
              case rel => exact ⟨m + 1, by omega, by go_num, HA3.out, hbz.drew⟩
              case measure => simp [intOf]; omega
            · have hmI : decide ((m : Int) < (C : Int)) = false := by simp; omega
              clear hap3
              go_wp2
              go_roundw
              case rel => exact ⟨k + 1, by omega, by go_num, HA3.out, hbz⟩
              case measure => simp [intOf]; omega
        · have hltI : decide ((k : Int) < (xs.length : Int)) = false := by simp; omega
          have f0 := Lib.frozen_of_heap hp 0
          have f1 := Lib.frozen_of_heap hp 1
          have f2 := Lib.frozen_of_heap hp 2
          have c1 := cell_of_heapE hp 1 _ rfl
          have c2 := cell_of_heapE hp 2 _ rfl
          clear hA hrows hp
          go_wp2
          go_ret
          exact ⟨rfl, ((hbw2.setCell (p := ⟨p, 0, none⟩) hBp _).setCell (p := ⟨p, 1, none⟩) hBp _).setCell (p := ⟨p, 2, none⟩) hBp _⟩

end Go.Proofs.YtmjokddplikegaaDoor
