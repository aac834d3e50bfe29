/-
  The walk of policy's read.
-/
import Derived.Test.YtplabofdcnpcpaaZAe
import Derived.Deep.RegionHeldLaw
import Derived.BigRegion
set_option linter.unusedSimpArgs false
set_option linter.unusedVariables false
namespace Go.Proofs.Ytplabofdcnpcpaa
open Go.RowKit

def TwR (w : World) (b : Nat) (N : ByteArray) (V : Value) : Prop := w.heap[b]? = some (.cells #[.string N, V] 52 (0, 0))
theorem TwR.range {w : World} {b : Nat} {N : ByteArray} {V : Value} (h : TwR w b N V) : w.rangeAt b 0 [.string N, V] := fun j u hu => by
  rw [Nat.zero_add, Lib.cell_of_heap h]
  match j, hu with
  | 0, hu => simpa using hu
  | 1, hu => simpa using hu
  | j + 2, hu => simp at hu
theorem TwR.cells {w : World} {b : Nat} {N : ByteArray} {V : Value} (h : TwR w b N V) : w.cell? ⟨b, 0, none⟩ = some (.string N) ∧ w.cell? ⟨b, 1, none⟩ = some V ∧ w.frozen? ⟨b, 0, none⟩ = false ∧ w.frozen? ⟨b, 1, none⟩ = false :=
  ⟨by rw [Lib.cell_of_heap h]; rfl, by rw [Lib.cell_of_heap h]; rfl, Lib.frozen_of_heap h 0, Lib.frozen_of_heap h 1⟩
theorem TwR.set {w : World} {b : Nat} {N N' : ByteArray} {V V' : Value} (h : TwR w b N V) : TwR ((w.setCell ⟨b, 0, none⟩ (.string N')).setCell ⟨b, 1, none⟩ V') b N' V' := by
  have h1 := Lib.heap_setCell_same h (i := 0) (.string N')
  have h2 := Lib.heap_setCell_same h1 (i := 1) V'
  unfold TwR
  rw [h2]
  rfl
theorem below_set2 {B : Nat} {w0 w : World} {b : Nat} {x y : Value} (h : Below B w0 w) (hb : B ≤ b) : Below B w0 ((w.setCell ⟨b, 0, none⟩ x).setCell ⟨b, 1, none⟩ y) :=
  (h.setCell (p := ⟨b, 0, none⟩) hb x).setCell (p := ⟨b, 1, none⟩) hb y

theorem results_r2 {fn : Func} {p q : Tmp} (h : fn.results = #[.cell p 52, .tmp q]) (tmps : Array Value) (w : World) (b : Nat) (N : ByteArray) (a : Option Addr) (n c : Nat) (hp : tmps.getD p undef = .pointer (some ⟨b, 0, none⟩)) (hc : w.rangeAt b 0 [.string N, .slice a n c]) : (results fn tmps).run Try.prog w = .ok (.tuple #[.agg #[.string N, .slice a n c], tmps.getD q undef]) w := by
  rw [Array.getD_eq_getD_getElem?] at hp
  simp only [results, h]
  simp [Sem.run_bind, Result.andThen, hp, asAddr, run_loadVar_mid w b 0 52 [.string N, .slice a n c] _ hc Try.underlying52 rfl (by kernel_rfl)]

def tlV (A n : Nat) : Value := .slice (some ⟨A, if n = 1 then 0 else 1, none⟩) (n - 1) (n - 1)

theorem slice_words (A n : Nat) (w : World) (hn : 1 ≤ n) : (Instr.sliceAt 22 (.slice (some ⟨A, 0, none⟩) n n) (some (.int .i64 1)) none none).run Try.prog w = .ok (tlV A n) w := by
  have und : Try.prog.underlying 22 = some (.slice (Try.prog.elem 22)) := by kernel_rfl
  have sz : (sizeOf (Try.prog.elem 22)).run Try.prog w = .ok 1 w := by kernel_rfl
  rw [run_sliceAt_slice (h := und), run_slice_l (ht := und) (h0 := by omega) (h1 := by omega), sz]
  simp only [Result.andThen, sliced, tlV]
  by_cases h : n = 1
  · simp [h]
  · rw [if_neg (by simp; omega)]
    simp [h, Addr.add_lit]

theorem tl_slv {w : World} {B A n : Nat} {x : List UInt8} {t : List (List UInt8)} (h : w.ownsRow B 9 1 (.slice (some ⟨A, 0, none⟩) n n) n (cellsT (x :: t))) (hn : n = t.length + 1) : SlV w B 9 (tlV A n) (cellsT t) := by
  rcases h.2 with ⟨e, _⟩ | ⟨g, cap, cur, e, hg, hrow, hnc, hcm, hcs, htake⟩
  · cases e
  · injection e with e1 _ e3
    injection e1 with e1
    injection e1 with e4 _
    subst e4 e3
    unfold tlV
    refine .inr ⟨A, if n = 1 then 0 else 1, n - 1, cur, by rw [cellsT_len]; congr 1; omega, hg, hrow, by rw [cellsT_len]; omega, by split <;> omega, by omega, fun j u hu => ?_⟩
    have hj : j < t.length := by have := (List.getElem?_eq_some_iff.1 hu).1; simpa [cellsT] using this
    rw [if_neg (by omega)]
    have h1 := h.cellAt (g := A) (1 + j) (by omega)
    rw [Lib.cell_of_heap hrow] at h1
    rw [h1, show 1 + j = j + 1 by omega]
    exact hu

theorem SlV.low0 {w : World} {B B' : Nat} {T : TypeId} {v : Value} {us : List Value} (h : SlV w B T v us) (hb : B' ≤ B) : SlV w B' T v us := by
  rcases h with h | ⟨g, o, c, cur, e, hB, h1⟩
  · exact .inl h
  · exact .inr ⟨g, o, c, cur, e, Nat.le_trans hb hB, h1⟩

def RdPost10 (l : List UInt8) (w : World) (e : Ending) (w' : World) : Prop :=
  match words9 l with
  | [] => e = .returned (.tuple #[.agg #[.string ⟨#[]⟩, .slice none 0 0], .bool false]) ∧ Below w.heap.size w w'
  | x :: t => ∃ a n c, e = .returned (.tuple #[.agg #[.string ⟨(low x).toArray⟩, .slice a n c], .bool true]) ∧ SlV w' w.heap.size 9 (.slice a n c) (cellsT t) ∧ Below w.heap.size w w'

set_option maxHeartbeats 4000000 in
set_option maxRecDepth 100000 in
theorem read10 (s : ByteArray) (w : World) (hs : s.size ≤ 1000000000) :
    Calls Try.prog 32 #[.string s] w (RdPost10 s.data.toList w) := by
  have HF := hid (fun X => fields10 s X (by omega))
  have HB0 := hid (show Below w.heap.size w (w.alloc (.cells #[.string ⟨#[]⟩, .slice none 0 0] 52)) from (Below.refl _ w).alloc (Nat.le_refl _) _)
  have HT0 := hid (show TwR (w.alloc (.cells #[.string ⟨#[]⟩, .slice none 0 0] 52)) w.heap.size ⟨#[]⟩ (.slice none 0 0) from heap_alloc_new w _)
  unfold RdPost10
  cases hw : words9 s.data.toList with
  | nil =>
    rw [hw] at HF
    clear hw hs
    go_enter Try.func32, Try.ntmps32
    go_wp2_with fail
    refine (HF.out _).mono ?_
    rintro e w1 ⟨A, rfl, hA, hown, hb⟩
    have HB := hid (below2 HB0.out hb)
    have HT := hid (row_kept HT0.out hb)
    obtain ⟨c0, c1, z0, z1⟩ := TwR.cells HT.out
    clear hown hb HF HT0 hA
    go_wp2_with fail
    refine bodyPost_ret (results_r2 rfl _ _ w.heap.size ⟨#[]⟩ none 0 0 rfl (TwR.set HT.out).range) rfl ⟨rfl, below_set2 HB.out (Nat.le_refl _)⟩
  | cons x t =>
    have hx : x.length ≤ 1000000000 := by
      have := (wds_len s.data.toList []).2 x (by rw [show wdsF s.data.toList [] = words9 s.data.toList from rfl, hw]; simp)
      rw [← Lib.size_eq] at this
      simp at this
      omega
    have htl : t.length ≤ 1000000001 := by
      have := (wds_len s.data.toList []).1
      rw [show wdsF s.data.toList [] = words9 s.data.toList from rfl, hw, ← Lib.size_eq] at this
      simp at this
      omega
    rw [hw] at HF
    obtain ⟨X, hX⟩ : ∃ X : ByteArray, X = ⟨x.toArray⟩ := ⟨_, rfl⟩
    have hXl : X.data.toList = x := by rw [hX]
    have HLW := hid (fun Z => lower_any X Z (by rw [Lib.size_eq, hXl]; omega))
    rw [hXl] at HLW
    obtain ⟨N, hN⟩ : ∃ N : ByteArray, N = ⟨(low x).toArray⟩ := ⟨_, rfl⟩
    rw [← hN] at HLW
    obtain ⟨n, hn⟩ : ∃ n, n = (x :: t).length := ⟨_, rfl⟩
    have HN := hid (show n = t.length + 1 by rw [hn]; rfl)
    have hn1 : 1 ≤ n := by rw [hn]; simp
    have hnb : n ≤ 1000000002 := by rw [hn]; simp; omega
    rw [← hn] at HF
    have HXC := hid (show (cellsT (x :: t))[0]? = some (.string X) by rw [hX]; rfl)
    dsimp only
    rw [← hN]
    clear hn hw hs hX hXl hN hx htl
    go_enter Try.func32, Try.ntmps32
    go_wp2_with fail
    refine (HF.out _).mono ?_
    rintro e w1 ⟨A, rfl, hA, hown, hb⟩
    have HB := hid (below2 HB0.out hb)
    have HT := hid (row_kept HT0.out hb)
    have HO := hid hown
    have cA : w1.cell? ⟨A, 0, none⟩ = some (.string X) := by
      have := hown.cellAt (g := A) 0 (by omega)
      rw [this]; exact HXC.out
    have hsl : ∀ wx, (Instr.sliceAt 22 (.slice (some ⟨A, 0, none⟩) n n) (some (.int .i64 1)) none none).run Try.prog wx = .ok (tlV A n) wx := fun wx => slice_words A n wx hn1
    obtain ⟨a, ln, lc, hV⟩ : ∃ a ln lc, tlV A n = .slice a ln lc := ⟨_, _, _, rfl⟩
    have HV := hid (tl_slv hown HN.out)
    rw [hV] at HV hsl
    have hne1 : ((n : Int) == 0) = false := by rw [beq_eq_false_iff_ne]; omega
    clear hown hb HF HT0 hA hV
    have hbb : w.heap.size < w1.heap.size := (Array.getElem?_eq_some_iff.1 HT.out).1
    go_wp2_with fail
    go_region_with (first | (go_at_call 47; refine (HLW.out _).mono ?_; rintro e w2 ⟨rfl, hb2x⟩; have hb2 : Below w1.heap.size w1 w2 := (Below.refl _ w1).drew.trans hb2x; obtain ⟨c0, c1, z0, z1⟩ := TwR.cells (row_kept HT.out hb2)))
    all_goals
      have HS := hid (show SlV ((w2.setCell ⟨w.heap.size, 0, none⟩ (.string N)).setCell ⟨w.heap.size, 1, none⟩ (.slice a ln lc)) w.heap.size 9 (.slice a ln lc) (cellsT t) from by
        have h1 := HV.out.same (w' := (w2.setCell ⟨w.heap.size, 0, none⟩ (.string N)).setCell ⟨w.heap.size, 1, none⟩ (.slice a ln lc)) fun k hk => by
          have h2 := HV.out.lt k hk
          have h3 : k ≠ w.heap.size := by have := h2.1; simp at this; omega
          rw [heap_setCell_other _ ⟨w.heap.size, 1, none⟩ k _ h3, heap_setCell_other _ ⟨w.heap.size, 0, none⟩ k _ h3, hb2.block k h2.2]
        exact h1.low0 (by simp))
      have HB2 := hid (below_set2 (below2 HB.out hb2) (Nat.le_refl _) (x := .string N) (y := .slice a ln lc))
      have HT2 := hid (TwR.set (N' := N) (V' := .slice a ln lc) (row_kept HT.out hb2))
      go_wp2_with fail
      exact bodyPost_ret (results_r2 rfl _ _ w.heap.size N a ln lc rfl (TwR.range HT2.out)) rfl ⟨a, ln, lc, rfl, HS.out, HB2.out⟩

end Go.Proofs.Ytplabofdcnpcpaa
