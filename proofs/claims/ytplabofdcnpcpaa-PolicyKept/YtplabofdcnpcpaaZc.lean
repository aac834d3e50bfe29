/-
  The walk of ostiarybook's Same at lists of string.
  What a book holds.
  What a list more makes of a book.
  The walk of ostiarybook's Strings: the marks of lists of texts.
-/
import Derived.Test.YtplabofdcnpcpaaZb
import Derived.Deep.QuietTactic
import Derived.BigQuiet
import Derived.Laws.IdiomStrings
set_option linter.unusedSimpArgs false
set_option linter.unusedVariables false
namespace Go.Proofs.Ytplabofdcnpcpaa
open Go.RowKit

set_option maxHeartbeats 4000000 in
set_option maxRecDepth 100000 in
theorem bsames (v1 v2 : Value) (n : Nat) (X : List ByteArray) (B : Nat) (w : World) (h1 : KpL 1 9 w B v1 n X) (h2 : KpL 1 9 w B v2 n X) (hl : n ≤ 1000000001) :
    Calls Try.prog 8 #[v1, v2] w fun e w' => e = .returned (.bool true) ∧ Below w.heap.size w w' := by
  obtain ⟨a1, c1, rfl, hc1, hm1⟩ := h1.slice
  obtain ⟨a2, c2, rfl, hc2, hm2⟩ := h2.slice
  have HV1 := hid h1
  have HV2 := hid h2
  clear h1 h2
  go_enter Try.func8, Try.ntmps8
  go_wp2_with fail
  go_loopw [5] (fun v5 wr => ∃ k : Nat, k ≤ n ∧ v5 = .int .i64 k ∧ Hid (Below w.heap.size w wr)) (fun v5 _ => n - (intOf v5).toNat)
  case atStart => exact ⟨0, Nat.zero_le _, rfl, Below.refl _ w⟩
  case round =>
    obtain ⟨k, hk, rfl, HR⟩ := hrel
    by_cases hlt : k < n
    · obtain ⟨b1, o1, rfl, e0⟩ := HV1.out.cell1 k hlt
      obtain ⟨b2, o2, rfl, g0⟩ := HV2.out.cell1 k hlt
      obtain ⟨S0, hS0⟩ : ∃ S, S = X.getD (k) ⟨#[]⟩ := ⟨_, rfl⟩
      rw [← hS0] at e0 g0
      have f0 := kept_cell e0 HR.out
      have k0 := kept_cell g0 HR.out
      have hin : (k : Int) < (n : Int) := by omega
      clear e0 g0 hS0
      go_wp2_with fail
      go_quiet (fail)
      go_wp2_with fail
      go_roundw
      case rel =>
        first
          | exact ⟨k + 1, by omega, by go_num, below_drewN HR.out _⟩
          | ((repeat apply Exists.intro); refine ⟨?_, rfl⟩; exact ⟨k + 1, by omega, by go_num, below_drewN HR.out _⟩)
          | ((repeat apply Exists.intro); exact ⟨⟨k + 1, by omega, by go_num, below_drewN HR.out _⟩, rfl⟩)
      case measure => simp [intOf]; omega
    · obtain rfl : k = n := by omega
      clear hk hlt
      go_wp2_with fail
      go_ret
      exact ⟨rfl, HR.out⟩

end Go.Proofs.Ytplabofdcnpcpaa

namespace Go.Proofs.Ytplabofdcnpcpaa
open Go.RowKit

theorem infoLss : (Try.prog.info? 22).map (fun i => (i.zero, i.size, i.bytes)) = some (some (.slice none 0 0), 1, 24) := by kernel_rfl
theorem infoEs : (Try.prog.info? 9).map (fun i => (i.zero, i.size, i.bytes)) = some (some (.string ByteArray.empty), 1, 16) := by kernel_rfl

/-- Two lists of the same texts. -/
def Prs (w : World) (B : Nat) (x y : Value) : Prop := ∃ (n : Nat) (X : List ByteArray), n ≤ 1000 ∧ KpL 1 9 w B x n X ∧ KpL 1 9 w B y n X

/-- What a book holds. -/
def Bks (w : World) (B p : Nat) (h : Int) (A Y : Value) (xs ys : List Value) : Prop :=
  B ≤ p ∧ ys.length = xs.length ∧ w.heap[p]? = some (Obj.cells #[A, Y, .int .i64 h, .bool false] 56 (0, 0)) ∧ SlV w B 22 A xs ∧ SlV w B 22 Y ys ∧ AptV A Y ∧
  (∀ (i : Nat) (x y : Value), xs[i]? = some x → ys[i]? = some y → Prs w B x y) ∧ xs.Pairwise AptV

theorem Prs.same {w w' : World} {B : Nat} {x y : Value} (h : Prs w B x y) (hk : ∀ k : Nat, (∃ (cur : Array Value) (fz : Nat × Nat), w.heap[k]? = some (Obj.cells cur 9 fz)) → w'.heap[k]? = w.heap[k]?) : Prs w' B x y := by
  obtain ⟨n, L, hl, h1, h2⟩ := h
  exact ⟨n, L, hl, h1.same fun g hg => hk g (by obtain ⟨cur, hc⟩ := h1.kind g hg; exact ⟨cur, _, hc⟩), h2.same fun g hg => hk g (by obtain ⟨cur, hc⟩ := h2.kind g hg; exact ⟨cur, _, hc⟩)⟩

theorem Bks.lt {w : World} {B p : Nat} {h : Int} {A Y : Value} {xs ys : List Value} (hb : Bks w B p h A Y xs ys) : p < w.heap.size := (Array.getElem?_eq_some_iff.1 hb.2.2.1).1

/-- Only the book's own block is turned. -/
theorem Bks.turn {w w' : World} {B p : Nat} {h h' : Int} {A Y : Value} {xs ys : List Value} (hb : Bks w B p h A Y xs ys) (hp : w'.heap[p]? = some (Obj.cells #[A, Y, .int .i64 h', .bool false] 56 (0, 0))) (hk : ∀ k, k < w.heap.size → k ≠ p → w'.heap[k]? = w.heap[k]?) : Bks w' B p h' A Y xs ys := by
  obtain ⟨h1, h2, h3, h4, h5, h6, h7, h8⟩ := hb
  refine ⟨h1, h2, hp, h4.same fun k hk' => hk k (h4.lt k hk').2 (fun e => h4.other h3 (by decide) (by rw [hk']; exact congrArg some e)), h5.same fun k hk' => hk k (h5.lt k hk').2 (fun e => h5.other h3 (by decide) (by rw [hk']; exact congrArg some e)), h6, fun i x y hx hy => (h7 i x y hx hy).same fun k hk' => ?_, h8⟩
  obtain ⟨cur, fz, hc⟩ := hk'
  exact hk k (Array.getElem?_eq_some_iff.1 hc).1 (kind_nf hc h3 (by decide))

theorem Bks.below {w w' : World} {B p : Nat} {h : Int} {A Y : Value} {xs ys : List Value} (hb : Bks w B p h A Y xs ys) (hbl : Below w.heap.size w w') : Bks w' B p h A Y xs ys :=
  hb.turn ((hbl.block p hb.lt).trans hb.2.2.1) fun k hk _ => hbl.block k hk

/-- What other blocks do is nothing to a book. -/
theorem Bks.apart {w w' : World} {B p : Nat} {h : Int} {A Y : Value} {xs ys : List Value} (hb : Bks w B p h A Y xs ys) (hk : ∀ k cur S fz, w.heap[k]? = some (Obj.cells cur S fz) → (S = 9 ∨ S = 22 ∨ k = p) → w'.heap[k]? = w.heap[k]?) : Bks w' B p h A Y xs ys := by
  obtain ⟨h1, h2, h3, h4, h5, h6, h7, h8⟩ := hb
  refine ⟨h1, h2, (hk p _ _ _ h3 (.inr (.inr rfl))).trans h3, h4.same fun k hk' => ?_, h5.same fun k hk' => ?_, h6, fun i x y hx hy => (h7 i x y hx hy).same fun k hk' => ?_, h8⟩
  · obtain ⟨cur, hc⟩ := h4.kind k hk'
    exact hk k _ _ _ hc (.inr (.inl rfl))
  · obtain ⟨cur, hc⟩ := h5.kind k hk'
    exact hk k _ _ _ hc (.inr (.inl rfl))
  · obtain ⟨cur, fz, hc⟩ := hk'
    exact hk k _ _ _ hc (.inl rfl)

/-- The first list is let go. -/
theorem Bks.drop {w w' : World} {B p gA oA cA gY oY cY : Nat} {h h' : Int} {a y : Value} {xs ys : List Value} (hb : Bks w B p h (.slice (some ⟨gA, oA, none⟩) (xs.length + 1) cA) (.slice (some ⟨gY, oY, none⟩) (ys.length + 1) cY) (a :: xs) (y :: ys))
    (hp : w'.heap[p]? = some (Obj.cells #[.slice (some ⟨gA, oA + 1, none⟩) xs.length (cA - 1), .slice (some ⟨gY, oY + 1, none⟩) ys.length (cY - 1), .int .i64 h', .bool false] 56 (0, 0))) (hk : ∀ k, k < w.heap.size → k ≠ p → w'.heap[k]? = w.heap[k]?) :
    Bks w' B p h' (.slice (some ⟨gA, oA + 1, none⟩) xs.length (cA - 1)) (.slice (some ⟨gY, oY + 1, none⟩) ys.length (cY - 1)) xs ys := by
  obtain ⟨h1, h2, h3, h4, h5, h6, h7, h8⟩ := hb
  have e4 := h4.tail
  have e5 := h5.tail
  have o4 := h4.other h3 (by decide)
  have o5 := h5.other h3 (by decide)
  refine ⟨h1, by simpa using h2, hp, e4.same fun k hk' => hk k (e4.lt k hk').2 (fun e => o4 (by show some gA = some p; rw [← e]; exact hk')), e5.same fun k hk' => hk k (e5.lt k hk').2 (fun e => o5 (by show some gY = some p; rw [← e]; exact hk')), ?_, fun i x z hx hz => (h7 (i + 1) x z (by simpa using hx) (by simpa using hz)).same fun k hk' => ?_, (List.pairwise_cons.1 h8).2⟩
  · rcases h6 with h6 | h6
    · exact .inl h6
    · exact .inr h6
  · obtain ⟨cur, fz, hc⟩ := hk'
    exact hk k (Array.getElem?_eq_some_iff.1 hc).1 (kind_nf hc h3 (by decide))

theorem sizeLss (w : World) : (sizeOf (Try.prog.elem 54)).run Try.prog w = .ok 1 w := by kernel_rfl
theorem undLss : Try.prog.underlying 54 = some (.slice (Try.prog.elem 54)) := by kernel_rfl
theorem slice_tails (g o n c : Nat) (w : World) (hn : 1 ≤ n) (hc : 2 ≤ c) : (Instr.sliceAt 54 (.slice (some ⟨g, o, none⟩) n c) (some (.int .i64 1)) none none).run Try.prog w = .ok (.slice (some ⟨g, o + 1, none⟩) (n - 1) (c - 1)) w := by
  rw [run_sliceAt_slice (h := undLss), run_slice_l (ht := undLss) (h0 := by omega) (h1 := by omega), sizeLss]
  simp only [Result.andThen, sliced, Option.map_some]
  rw [if_neg (by simp; omega)]
  simp [Addr.add_lit]

end Go.Proofs.Ytplabofdcnpcpaa

namespace Go.Proofs.Ytplabofdcnpcpaa
open Go.RowKit

/-- The list stands behind the others in the book's first row. -/
theorem add1s {w w2 : World} {B p : Nat} {h : Int} {A Y X AA : Value} {xs ys : List Value} {o : Obj} (hb : Bks w B p h A Y xs ys) (hBw : B ≤ w.heap.size) (hAA : SlV w2 B 22 AA (xs ++ [X])) (hgrow : (w.alloc o).grownBy w2 A.ownBlock)
    (hwh : AA.ownBlock = A.ownBlock ∨ ∃ k, AA.ownBlock = some k ∧ w.heap.size ≤ k) :
    w2.heap[p]? = some (Obj.cells #[A, Y, .int .i64 h, .bool false] 56 (0, 0)) ∧
    (w2.setCell ⟨p, 0, none⟩ AA).heap[p]? = some (Obj.cells #[AA, Y, .int .i64 h, .bool false] 56 (0, 0)) ∧ SlV (w2.setCell ⟨p, 0, none⟩ AA) B 22 AA (xs ++ [X]) ∧ SlV (w2.setCell ⟨p, 0, none⟩ AA) B 22 Y ys ∧ AptV AA Y ∧
    (∀ v n cs, KpL 1 9 w B v n cs → KpL 1 9 (w2.setCell ⟨p, 0, none⟩ AA) B v n cs) ∧ Bt 22 p B w (w2.setCell ⟨p, 0, none⟩ AA) := by
  obtain ⟨hBp, hyl, hp, hA, hY, hAY, hpr, hpw⟩ := hb
  have hlt : p < w.heap.size := (Array.getElem?_eq_some_iff.1 hp).1
  have hpA := hA.other hp (by decide)
  have hpY := hY.other hp (by decide)
  have hb2 : w2.heap[p]? = some (Obj.cells #[A, Y, .int .i64 h, .bool false] 56 (0, 0)) := (hgrow.block p (by simp; omega) (fun e => hpA e.symm)).trans ((Lib.alloc_old w o p hlt).trans hp)
  have hpA' := hAA.other hb2 (by decide)
  have hold : ∀ k, k < w.heap.size → some k ≠ A.ownBlock → k ≠ p → (w2.setCell ⟨p, 0, none⟩ AA).heap[k]? = w.heap[k]? := fun k hk hkA hkp => by
    rw [heap_setCell_other w2 ⟨p, 0, none⟩ k AA hkp, hgrow.block k (by simp; omega) hkA, Lib.alloc_old w o k hk]
  refine ⟨hb2, heap_setCell_same w2 p 0 _ _ AA hb2, hAA.same fun k hk => heap_setCell_other w2 ⟨p, 0, none⟩ k AA (fun e => hpA' (by rw [hk]; exact congrArg some e)), hY.same fun k hk => hold k (hY.lt k hk).2 (fun e => ?_) (fun e => hpY (by rw [hk]; exact congrArg some e)), ?_, fun v n cs hv => hv.same fun k hk => ?_, ?_, fun k hk hkp hn => hold k hk (fun e => ?_) hkp⟩
  · rcases hAY with h1 | h1
    · rw [h1] at e; cases e
    · exact h1 (by rw [hk]; exact e.symm)
  · rcases hwh with e | ⟨k, e, hk⟩
    · rcases hAY with h1 | h1
      · exact .inl (e.trans h1)
      · exact .inr (by rw [e]; exact h1)
    · refine .inr fun e2 => ?_
      have := (hY.lt k (by rw [← e2, e])).2
      omega
  · obtain ⟨cur, hcur⟩ := hv.kind k hk
    refine hold k (hv.lt k hk).2 (fun e => hA.other hcur (by decide) e.symm) (kind_nf hcur hp (by decide))
  · exact (((Below.refl B w).alloc hBw o).grown hgrow (by simp; omega) (fun k hk => (hA.lt k hk).1)).setCell (p := ⟨p, 0, none⟩) hBp _
  · obtain ⟨cur, hc⟩ := hA.kind k e.symm
    exact hn _ _ hc

/-- Its copy stands behind the others in the book's second row. -/
theorem add2s {w3 w4 w5 : World} {B p : Nat} {h : Int} {AA Y YY y : Value} {us ys : List Value} {cs : List ByteArray} {n : Nat} {o : Obj} (hBp : B ≤ p) (hp3 : w3.heap[p]? = some (Obj.cells #[AA, Y, .int .i64 h, .bool false] 56 (0, 0))) (hA3 : SlV w3 B 22 AA us) (hY3 : SlV w3 B 22 Y ys) (hAY : AptV AA Y) (hBw : B ≤ w3.heap.size)
    (hg4 : w3.grownBy w4 none) (hy4 : KpL 1 9 w4 B y n cs) (hYY : SlV w5 B 22 YY (ys ++ [y])) (hg5 : (w4.alloc o).grownBy w5 Y.ownBlock) (hwh : YY.ownBlock = Y.ownBlock ∨ ∃ k, YY.ownBlock = some k ∧ w4.heap.size ≤ k) :
    w5.heap[p]? = some (Obj.cells #[AA, Y, .int .i64 h, .bool false] 56 (0, 0)) ∧
    (w5.setCell ⟨p, 1, none⟩ YY).heap[p]? = some (Obj.cells #[AA, YY, .int .i64 h, .bool false] 56 (0, 0)) ∧ SlV (w5.setCell ⟨p, 1, none⟩ YY) B 22 AA us ∧ SlV (w5.setCell ⟨p, 1, none⟩ YY) B 22 YY (ys ++ [y]) ∧ AptV AA YY ∧
    (∀ v n cs, KpL 1 9 w3 B v n cs → KpL 1 9 (w5.setCell ⟨p, 1, none⟩ YY) B v n cs) ∧ KpL 1 9 (w5.setCell ⟨p, 1, none⟩ YY) B y n cs ∧ Bt 22 p B w3 (w5.setCell ⟨p, 1, none⟩ YY) := by
  have hlt : p < w3.heap.size := (Array.getElem?_eq_some_iff.1 hp3).1
  have hs4 := hg4.size
  have hpA := hA3.other hp3 (by decide)
  have hpY := hY3.other hp3 (by decide)
  have hY4 : SlV w4 B 22 Y ys := hY3.same fun k hk => hg4.block k (hY3.lt k hk).2 (by simp)
  have hp4 := (hg4.block p hlt (by simp)).trans hp3
  have hp5 := (hg5.block p (by simp; omega) (fun e => hpY e.symm)).trans ((Lib.alloc_old w4 o p (by omega)).trans hp4)
  have hpYY := hYY.other hp5 (by decide)
  have hold4 : ∀ k, k < w4.heap.size → some k ≠ Y.ownBlock → k ≠ p → (w5.setCell ⟨p, 1, none⟩ YY).heap[k]? = w4.heap[k]? := fun k hk hkY hkp => by
    rw [heap_setCell_other w5 ⟨p, 1, none⟩ k YY hkp, hg5.block k (by simp; omega) hkY, Lib.alloc_old w4 o k hk]
  have hold : ∀ k, k < w3.heap.size → some k ≠ Y.ownBlock → k ≠ p → (w5.setCell ⟨p, 1, none⟩ YY).heap[k]? = w3.heap[k]? := fun k hk hkY hkp => (hold4 k (by omega) hkY hkp).trans (hg4.block k hk (by simp))
  refine ⟨hp5, heap_setCell_same w5 p 1 _ _ YY hp5, hA3.same fun k hk => hold k (hA3.lt k hk).2 (fun e => ?_) (fun e => hpA (by rw [hk]; exact congrArg some e)), hYY.same fun k hk => heap_setCell_other w5 ⟨p, 1, none⟩ k YY (fun e => hpYY (by rw [hk]; exact congrArg some e)), ?_, fun v n cs hv => hv.same fun k hk => ?_, hy4.same fun k hk => ?_, ?_, fun k hk hkp hn => hold k hk (fun e => ?_) hkp⟩
  · rcases hAY with h1 | h1
    · rw [h1] at hk; cases hk
    · exact h1 (by rw [hk]; exact e)
  · rcases hwh with e | ⟨k, e, hk⟩
    · rcases hAY with h1 | h1
      · exact .inl h1
      · exact .inr (by rw [e]; exact h1)
    · by_cases hn : AA.ownBlock = none
      · exact .inl hn
      · refine .inr fun e2 => ?_
        have := (hA3.lt k (by rw [e2, e])).2
        omega
  · obtain ⟨cur, hcur⟩ := hv.kind k hk
    exact hold k (hv.lt k hk).2 (fun e => hY3.other hcur (by decide) e.symm) (kind_nf hcur hp3 (by decide))
  · obtain ⟨cur, hcur⟩ := hy4.kind k hk
    exact hold4 k (hy4.lt k hk).2 (fun e => hY4.other hcur (by decide) e.symm) (kind_nf hcur hp4 (by decide))
  · have h4 : Below B w3 w4 := (Below.refl B w3).grown hg4 hBw (fun k hk => by simp at hk)
    exact ((h4.alloc (by omega) o).grown hg5 (by simp; omega) (fun k hk => (hY3.lt k hk).1)).setCell (p := ⟨p, 1, none⟩) hBp _
  · obtain ⟨cur, hc⟩ := hY3.kind k e.symm
    exact hn _ _ hc

/-- The book with the list. -/
theorem add3s {w w3 w6 : World} {B p n : Nat} {h : Int} {A Y AA YY X y : Value} {xs ys : List Value} {L : List ByteArray} (hb : Bks w B p h A Y xs ys) (hX : KpL 1 9 w B X n L) (hL : n ≤ 1000) (hap : ∀ a ∈ xs, AptV a X)
    (hr3 : ∀ v n cs, KpL 1 9 w B v n cs → KpL 1 9 w3 B v n cs) (hr6 : ∀ v n cs, KpL 1 9 w3 B v n cs → KpL 1 9 w6 B v n cs) (hy : KpL 1 9 w6 B y n L)
    (hp6 : w6.heap[p]? = some (Obj.cells #[AA, YY, .int .i64 h, .bool false] 56 (0, 0))) (hA6 : SlV w6 B 22 AA (xs ++ [X])) (hY6 : SlV w6 B 22 YY (ys ++ [y])) (hAY : AptV AA YY) :
    Bks w6 B p h AA YY (xs ++ [X]) (ys ++ [y]) := by
  obtain ⟨hBp, hyl, hp, hA, hY, _, hpr, hpw⟩ := hb
  refine ⟨hBp, by simp [hyl], hp6, hA6, hY6, hAY, fun i a b ha hb => ?_, ?_⟩
  · by_cases hi : i < xs.length
    · rw [List.getElem?_append_left hi] at ha
      rw [List.getElem?_append_left (by omega)] at hb
      obtain ⟨m, M, hM, h1, h2⟩ := hpr i a b ha hb
      exact ⟨m, M, hM, hr6 _ _ _ (hr3 _ _ _ h1), hr6 _ _ _ (hr3 _ _ _ h2)⟩
    · have hi2 : i = xs.length := by
        have := (List.getElem?_eq_some_iff.1 ha).1
        simp at this
        omega
      subst hi2
      rw [List.getElem?_append_right (Nat.le_refl _), Nat.sub_self] at ha
      rw [List.getElem?_append_right (by omega), hyl, Nat.sub_self] at hb
      simp at ha hb
      subst ha hb
      exact ⟨n, L, hL, hr6 _ _ _ (hr3 _ _ _ hX), hy⟩
  · rw [List.pairwise_append]
    refine ⟨hpw, List.pairwise_singleton _ _, fun a ha b hb => ?_⟩
    rw [List.mem_singleton.1 hb]
    exact hap a ha

end Go.Proofs.Ytplabofdcnpcpaa

namespace Go.Proofs.Ytplabofdcnpcpaa
open Go.RowKit

def mk0s (i _j : Nat) : ByteArray := ⟨#[109, 97, 114, 107, 32, UInt8.ofNat i, 0, 0]⟩

theorem conv_mark (w : World) (i : Nat) (hi : i ≤ 201) : (convert 70 9 (.slice (some ⟨w.heap.size, 0, none⟩) 3 3)).run Try.prog (w.alloc (.cells #[.int .u8 (i : Int), .int .u8 ((i : Int) / 256), .int .u8 ((i : Int) / 65536)] 5 (0, 0))) = .ok (.string ⟨#[UInt8.ofNat i, 0, 0]⟩) (w.alloc (.cells #[.int .u8 (i : Int), .int .u8 ((i : Int) / 256), .int .u8 ((i : Int) / 65536)] 5 (0, 0))) := by
  have h1 : (i : Int) / 256 = 0 := by omega
  have h2 : (i : Int) / 65536 = 0 := by omega
  have h3 : ((UInt8.ofNat i).toNat : Int) = (i : Int) := by
    rw [UInt8.toNat_ofNat']
    omega
  rw [h1, h2]
  refine run_convert_bytes_back (P := Try.prog) _ 70 9 5 ⟨w.heap.size, 0, none⟩ 3 [UInt8.ofNat i, 0, 0] Try.underlying70 Try.underlying5 Try.underlying9 ?_
  intro j hj
  match j, hj with
  | 0, _ => simp [Addr.add]; omega
  | 1, _ => simp [Addr.add]
  | 2, _ => simp [Addr.add]

set_option maxHeartbeats 1000000 in
set_option maxRecDepth 100000 in
theorem marks_any (i j : Nat) (hi : i ≤ 201) (hj : j ≤ 9223372036854775807) (w : World) :
    Calls Try.prog 27 #[.int .i64 (i : Int), .int .i64 (j : Int)] w fun e w' => e = .returned (.string (mk0s i j)) ∧ Below w.heap.size w w' := by
  have hcv := conv_mark w i hi
  have HE := hid (show (⟨#[109, 97, 114, 107, 32]⟩ : ByteArray) ++ ⟨#[UInt8.ofNat i, 0, 0]⟩ = mk0s i j by
    unfold mk0s
    rw [← Lib.mk_data (_ ++ _)]
    congr 2)
  clear hj
  obtain ⟨Z, hZ⟩ : ∃ Z : ByteArray, Z = ⟨#[UInt8.ofNat i, 0, 0]⟩ := ⟨_, rfl⟩
  have hZs : Z.size = 3 := by rw [hZ]; rfl
  rw [← hZ] at hcv HE
  clear hZ
  go_enter Try.func27, Try.ntmps27
  go_wp2
  go_ret
  rw [← HE.out]
  exact ⟨rfl, (Below.refl _ w).alloc (Nat.le_refl _) _⟩

end Go.Proofs.Ytplabofdcnpcpaa
