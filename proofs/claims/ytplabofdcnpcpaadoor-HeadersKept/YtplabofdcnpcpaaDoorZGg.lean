/-
  A copy of a list of headers into new memory; the walk of headers' with.
  The walks of strings.IndexAny and ContainsAny at the bytes 0, 10 and 13, over any bytes.
  The walks of strings.IndexAny at the bytes 0, 10 and 13 over long texts, of ContainsAny, and of headers' Value.
  The walks of headers' header and Add.
  The walks of headers' Drop and first.
  The walk of headers' Set.
  The walks of ostiarybook.Same over headers, of headers' Forbidden, and of ostiarylaw5.long.
  The walks of ostiarykeep.Few and ostiarybook.Within.
  The walk of ostiarykeep.FewHeaders.
-/
import Derived.Test.YtplabofdcnpcpaaDoorZGf
import Derived.Test.YtplabofdcnpcpaaDoorZGe
import Derived.Test.YtplabofdcnpcpaaDoorZGd
import Derived.Laws.CopyOwn
import Derived.Laws.MakeOwn
import Derived.Laws.RangeAny
import Derived.Lib.DecodeN
import Derived.Lib.OthersKept
import Derived.Deep.LoopGhost
import Derived.RegionTactic
import Derived.Deep.RegionWith
import Derived.Deep.QuietTactic
import Derived.BigQuiet
import Derived.Laws.Runes
import Derived.Deep.WholeRow
import Derived.Deep.RegionLaw
import Derived.Deep.RegionHeldLaw
set_option linter.unusedSimpArgs false
set_option linter.unusedVariables false
namespace Go.Proofs.YtplabofdcnpcpaaDoor
open Go.RowKit

section
variable {P : Program}

/-- A copy of n elements of two cells each to the head of a block. -/
theorem run_copy_two (w : World) (dT sT ty elem : TypeId) (g n dCap : Nat) (a : Option Addr) (sCap : Nat) (cur : Array Value) (t : TypeId) (cs : List Value)
    (hu : P.underlying dT = some (.slice elem)) (hs : (P.info? elem).map (·.size) = some 2)
    (hg : w.heap[g]? = some (.cells cur t (0, 0))) (hn : cs.length = n * 2)
    (hsrc : ∀ j v, cs[j]? = some v → ∃ ad, a = some ad ∧ w.cell? (ad.add j) = some v) (hfit : cs.length ≤ cur.size) (h1 : ∀ v ∈ cs, v.oneCell' = true) :
    (Builtin.copy_ #[dT, sT] ty #[.slice (some ⟨g, 0, none⟩) n dCap, .slice a n sCap]).run P w =
      .ok (goInt n) (w.setRow g (cs ++ cur.toList.drop cs.length).toArray) := by
  have hst := run_storeCells_at P g 0 t cs 0 cur w hg (by simpa using hfit) h1
  simp only [Nat.add_zero, Nat.zero_add, List.take_zero, List.nil_append] at hst
  cases hq : P.info? elem with
  | none => simp [hq] at hs
  | some i =>
    have hi : i.size = 2 := by simpa [hq] using hs
    by_cases h0 : n = 0
    · subst h0
      have : cs = [] := List.eq_nil_of_length_eq_zero (by simpa using hn)
      subst this
      have hl : ∀ (x : Addr), (loadCells x 0).run P w = .ok #[] w := fun x => by simpa using run_loadCells_list (P := P) w x [] (by simp)
      have hsr : w.setRow g cur = w := setRow_self w g cur t (0, 0) hg
      cases a <;> simp [Builtin.copy_, run_underlying hu, Builtin.lenOf, Builtin.firstCells, sizeOf, typeInfo, hq, storeCells, hl, hsr]
    · have hpos : 0 < cs.length := by omega
      obtain ⟨ad, rfl, _⟩ := hsrc 0 cs[0] (by rw [List.getElem?_eq_getElem hpos])
      have hl := run_loadCells_list (P := P) w ad cs (fun j v hv => by obtain ⟨ad', e, h⟩ := hsrc j v hv; cases e; exact h)
      rw [hn] at hl
      simp [Builtin.copy_, run_underlying hu, Builtin.lenOf, Builtin.firstCells, sizeOf, typeInfo, hq, hi, hl, hst]

theorem wpList_copy_two {w : World} {ops : Array Oper} {rest : List Oper} {o : Oper} {a : Act} {Q : Exit → Act → World → Prop} (hgd : o.guard = none) (d s : Operand) (dT sT : TypeId)
    (ho : o.op = .call { callee := .builtin .copy, args := #[d, s], argTypes := #[dT, sT] }) (elem : TypeId) (hu : P.underlying dT = some (.slice elem)) (hsz : (P.info? elem).map (·.size) = some 2)
    (g n dCap : Nat) (ad : Option Addr) (sCap : Nat) (hd : a.eval d = .slice (some ⟨g, 0, none⟩) n dCap) (hs : a.eval s = .slice ad n sCap)
    (cur : Array Value) (t : TypeId) (hg : w.heap[g]? = some (.cells cur t (0, 0))) (cs : List Value) (hn : cs.length = n * 2)
    (hsrc : ∀ j v, cs[j]? = some v → ∃ x, ad = some x ∧ w.cell? (x.add j) = some v) (hfit : cs.length ≤ cur.size) (h1 : ∀ v ∈ cs, v.oneCell' = true)
    (h : wpList P ops Q rest (a.put o.dst (goInt n)) (w.setRow g (cs ++ cur.toList.drop cs.length).toArray)) : wpList P ops Q (o :: rest) a w := by
  refine wpList_plain hgd fun K hK => ?_
  have hrun := run_copy_two (P := P) w dT sT o.type elem g n dCap ad sCap cur t cs hu hsz hg hn hsrc hfit h1
  unfold Oper.wp
  simp [execOp, ho, resolve, invoke, builtin, hd, hs, hrun, Result.andThen]
  exact hK _ _ h

end

theorem cellsH_cell (L : List Hd) (j : Nat) (u : Value) (h : (cellsH L)[j]? = some u) : ∃ k, ∃ hk : k < L.length, (j = k * 2 ∧ u = .string ⟨L[k].name.toArray⟩) ∨ (j = k * 2 + 1 ∧ u = .string ⟨L[k].value.toArray⟩) := by
  have hj : j < L.length * 2 := by
    rw [← cellsH_len]
    exact (List.getElem?_eq_some_iff.1 h).1
  refine ⟨j / 2, by omega, ?_⟩
  have h2 := cellsH_at L (j / 2) (by omega)
  rcases (show j = j / 2 * 2 ∨ j = j / 2 * 2 + 1 by omega) with e | e
  · left
    refine ⟨e, ?_⟩
    rw [e, h2.1] at h
    exact (Option.some.inj h).symm
  · right
    refine ⟨e, ?_⟩
    rw [e, h2.2] at h
    exact (Option.some.inj h).symm

theorem cellsH_oneCell (L : List Hd) : ∀ u ∈ cellsH L, u.oneCell' = true := fun u hu => by
  obtain ⟨j, hj⟩ := List.getElem?_of_mem hu
  obtain ⟨k, hk, ⟨_, rfl⟩ | ⟨_, rfl⟩⟩ := cellsH_cell L j u hj <;> rfl

theorem add_of (b off j : Nat) : (⟨b, off, none⟩ : Addr).add j = ⟨b, off + j, none⟩ := by unfold Addr.add; split <;> simp_all

/-- The cells of a list of headers, one by one. -/
theorem HdAt.cells {w : World} {a : Option Addr} {n cap : Nat} {L : List Hd} (h : HdAt w (.slice a n cap) L) : n = L.length ∧ ∀ j u, (cellsH L)[j]? = some u → ∃ x, a = some x ∧ w.cell? (x.add j) = some u := by
  obtain ⟨a', cap', e, _, _, hc⟩ := h
  cases e
  refine ⟨rfl, fun j u hu => ?_⟩
  obtain ⟨k, hk, h⟩ := cellsH_cell L j u hu
  obtain ⟨b, off, rfl, c1, c2⟩ := hc k hk
  refine ⟨_, rfl, ?_⟩
  rw [add_of]
  rcases h with ⟨rfl, rfl⟩ | ⟨rfl, rfl⟩
  · exact c1
  · rw [← Nat.add_assoc]; exact c2

/-- A list of headers of the call's own, as it is answered. -/
def HdPost (L : List Hd) (w : World) (e : Ending) (w' : World) : Prop := ∃ v, e = .returned v ∧ w'.ownsRow w.heap.size 38 2 v L.length (cellsH L) ∧ Below w.heap.size w w'

set_option maxHeartbeats 2000000 in
set_option maxRecDepth 100000 in
theorem with_any (v : Value) (L : List Hd) (nm vl : ByteArray) (w : World) (h : HdAt w v L) (hl : L.length ≤ 1000000) :
    Calls Tryd.prog 27 #[v, hdVal nm vl] w (HdPost (L ++ [⟨nm.data.toList, vl.data.toList⟩]) w) := by
  obtain ⟨i0, hi, hz0, hz1, hz2⟩ := info3 infoHd
  have hbx := h.kept (belowA (Below.refl _ w) (.cells #[.string nm, .string vl] 38))
  obtain ⟨a1, c1, rfl, hc1, hm1, hv1⟩ := h.view
  clear h hv1
  have hmk := run_make (P := Tryd.prog) (w.alloc (.cells #[.string nm, .string vl] 38)) 22 38 i0 _ Tryd.underlying22 hi hz0 .i64 .i64 (L.length : Int) ((L.length : Int) + 1) (by omega) (by omega) (by rw [hz2]; omega) (by omega)
  have hcp : ∃ W3, (Builtin.copy_ #[22, 22] 3 #[.slice (some ⟨w.heap.size + 1, 0, none⟩) L.length (L.length + 1), .slice a1 L.length c1]).run Tryd.prog ((w.alloc (.cells #[.string nm, .string vl] 38)).alloc (.cells (madeCells #[.string ByteArray.empty, .string ByteArray.empty] ((L.length + 1) * 2)) 38)) = .ok (goInt L.length) W3 ∧
      W3.ownsRow w.heap.size 38 2 (.slice (some ⟨w.heap.size + 1, 0, none⟩) L.length (L.length + 1)) L.length (cellsH L) ∧ Below w.heap.size w W3 ∧ W3.cell? ⟨w.heap.size, 0, none⟩ = some (.string nm) ∧ W3.cell? ⟨w.heap.size, 1, none⟩ = some (.string vl) := by
    obtain ⟨W1, hW1⟩ : ∃ W1, W1 = w.alloc (.cells #[.string nm, .string vl] 38) := ⟨_, rfl⟩
    obtain ⟨cur, hcur⟩ : ∃ c, c = madeCells #[Value.string ByteArray.empty, .string ByteArray.empty] ((L.length + 1) * 2) := ⟨_, rfl⟩
    rw [← hW1, ← hcur]
    have hcs : cur.size = (L.length + 1) * 2 := by rw [hcur, size_madeCells]
    have hsz1 : W1.heap.size = w.heap.size + 1 := by rw [hW1]; simp
    have hg2 : (W1.alloc (.cells cur 38)).heap[w.heap.size + 1]? = some (.cells cur 38 (0, 0)) := by
      rw [← hsz1]; exact heap_alloc_new _ _
    have hx2 : HdAt (W1.alloc (.cells cur 38)) (.slice a1 L.length c1) L := by
      rw [← hW1] at hbx
      exact hbx.kept (belowA (Below.refl _ _) _)
    have hb2 : Below w.heap.size w (W1.alloc (.cells cur 38)) := by
      rw [hW1]
      exact belowA (belowA (Below.refl _ _) _) _
    have hr := run_copy_two (P := Tryd.prog) (W1.alloc (.cells cur 38)) 22 22 3 38 (w.heap.size + 1) L.length (L.length + 1) a1 c1 cur 38 (cellsH L) Tryd.underlying22 (by kernel_rfl) hg2 (cellsH_len L) hx2.cells.2 (by rw [cellsH_len]; omega) (cellsH_oneCell L)
    have hg3 := setRow_heap (W1.alloc (.cells cur 38)) (w.heap.size + 1) _ (cellsH L ++ cur.toList.drop (cellsH L).length).toArray 38 _ hg2
    have ho : ∀ k, k ≠ w.heap.size + 1 → ((W1.alloc (.cells cur 38)).setRow (w.heap.size + 1) (cellsH L ++ cur.toList.drop (cellsH L).length).toArray).heap[k]? = (W1.alloc (.cells cur 38)).heap[k]? := fun k hk => setRow_other _ _ k _ hk
    refine ⟨_, hr, ⟨cellsH_len L, .inr ⟨w.heap.size + 1, L.length + 1, _, rfl, by omega, hg3, by omega, by unfold maxLen; omega, by simp [cellsH_len, hcs]; omega, ?_⟩⟩, below_setRow hb2 (by omega) _, ?_, ?_⟩
    · rw [List.toList_toArray, List.take_append, ← cellsH_len L]; simp
    · rw [World.cell?_of_block (ho w.heap.size (by omega)), hW1]; simp [go_sem]
    · rw [World.cell?_of_block (ho w.heap.size (by omega)), hW1]; simp [go_sem]
  obtain ⟨W3, hcopy, hown3, hb3, g0, g1⟩ := hcp
  have HO := hid hown3
  have HB := hid hb3
  have hw3 := hb3.size
  clear hown3 hb3 hbx
  unfold hdVal
  go_enter Tryd.func27, Tryd.ntmps27
  go_wp2_with (at_builtin; go_must (refine wpList_append_own _ rfl _ _ 22 rfl w.heap.size 38 i0 _ 2 32 Tryd.underlying22 hi hz0 hz1 hz2 rfl (by decide) _ _ _ rfl (HO.out.alloc _) ⟨W3.heap.size, 0, none⟩ 1 1 [.string nm, .string vl] rfl rfl ?c1 ?c2 ?c3 ?c4 ?c5 ?_))
  case c1 =>
    intro q u hq
    match q, hq with
    | 0, hq => simp at hq; subst hq; simp [Addr.add]
    | 1, hq => simp at hq; subst hq; simp [Addr.add]
  case c2 => intro u hu; simp at hu; rcases hu with rfl | rfl <;> rfl
  case c3 => unfold maxLen; omega
  case c4 => omega
  case c5 => simp; omega
  intro v' w4 hown' hgrow hnil
  have HO4 := hid hown'
  have HB4 := hid (show Below w.heap.size w w4 from (HB.out.alloc hw3 _).grown hgrow (by simp; omega) (fun g hg => (HO.out.lt g hg).1))
  clear hown' hgrow hnil
  go_wp2
  go_ret
  refine ⟨_, rfl, ?_, HB4.out⟩
  rw [cellsH_app, List.length_append]
  have := HO4.out
  exact this

end Go.Proofs.YtplabofdcnpcpaaDoor

namespace Go.Proofs.YtplabofdcnpcpaaDoor
open Go.RowKit

theorem xget_bang (s : ByteArray) (i : Nat) (h : i < s.size) : s.get! i = s[i] := by
  show s.data[i]! = s.data[i]
  exact getElem!_pos s.data i h

set_option maxRecDepth 100000 in
theorem xdecode_skip (s : ByteArray) (i : Nat) (h : i < s.size) (ha : 128 ≤ (s[i]'h).toNat) : ∃ r n, Utf8.decode s i = (r, n) ∧ 128 ≤ r ∧ r ≤ 1114111 ∧ 1 ≤ n ∧ i + n ≤ s.size ∧ ∀ j, i ≤ j → j < i + n → 128 ≤ (s.get! j).toNat := by
  have h0 : 128 ≤ (s.get! i).toNat := by rw [xget_bang s i h]; exact ha
  rw [Lib.decode_at]
  unfold Lib.decodeN
  rw [if_neg (by omega)]
  have one : ∀ j, i ≤ j → j < i + 1 → 128 ≤ (s.get! j).toNat := fun j h1 h2 => by
    have : j = i := by omega
    rw [this]; exact h0
  split
  · split
    · refine ⟨_, _, rfl, by omega, by omega, by omega, by omega, fun j h1 h2 => ?_⟩
      have : j = i ∨ j = i + 1 := by omega
      rcases this with rfl | rfl
      · exact h0
      · omega
    · exact ⟨_, _, rfl, by omega, by omega, by omega, by omega, one⟩
  · split
    · split
      · refine ⟨_, _, rfl, by omega, by omega, by omega, by omega, fun j h1 h2 => ?_⟩
        have : j = i ∨ j = i + 1 ∨ j = i + 2 := by omega
        rcases this with rfl | rfl | rfl
        · exact h0
        · omega
        · omega
      · exact ⟨_, _, rfl, by omega, by omega, by omega, by omega, one⟩
    · split
      · split
        · refine ⟨_, _, rfl, by omega, by omega, by omega, by omega, fun j h1 h2 => ?_⟩
          have : j = i ∨ j = i + 1 ∨ j = i + 2 ∨ j = i + 3 := by omega
          rcases this with rfl | rfl | rfl | rfl
          · exact h0
          · omega
          · omega
          · omega
        · exact ⟨_, _, rfl, by omega, by omega, by omega, by omega, one⟩
      · exact ⟨_, _, rfl, by omega, by omega, by omega, by omega, one⟩

theorem xnoAny_skip (s : ByteArray) (i n : Nat) (h : Lib.NoAny s.data.toList [0, 10, 13] i) (hn : i + n ≤ s.size) (hj : ∀ j, i ≤ j → j < i + n → 128 ≤ (s.get! j).toNat) : Lib.NoAny s.data.toList [0, 10, 13] (i + n) := by
  intro j b hjn hb
  by_cases h1 : j < i
  · exact h j b h1 hb
  · have h2 := hj j (by omega) hjn
    have hjs : j < s.size := by omega
    rw [xget_bang s j hjs] at h2
    rw [Lib.data_getElem? s j hjs] at hb
    cases hb
    simp
    refine ⟨?_, ?_, ?_⟩ <;> (intro e; rw [e] at h2; revert h2; decide)

theorem xbelow_iter (w : World) (s : ByteArray) (i : Nat) : Below w.heap.size w (w.iter s i) := (Below.refl _ w).alloc (Nat.le_refl _) _

set_option maxHeartbeats 2000000 in
set_option maxRecDepth 100000 in
theorem xindexRune_high (r : Int) (w : World) (hr1 : 128 ≤ r) (h2 : r ≤ 1114111) :
    Calls Tryd.prog 95 #[.string ⟨#[0, 10, 13]⟩, .int .i32 r] w fun e w' => e = .returned (.int .i64 (-1)) ∧ Below w.heap.size w w' := by
  have hr0 : (0 : Int) ≤ r := by omega
  by_cases he : r = 65533
  · subst he
    go_enter Tryd.func95, Tryd.ntmps95
    go_wp2
    go_loopg [5, 6] 3 (fun g _ _ wx => ∃ i : Nat, i + g = 3 ∧ wx = w.iter ⟨#[0, 10, 13]⟩ i)
    case atStart => exact ⟨0, by omega, rfl⟩
    case round =>
      obtain ⟨i, hig, rfl⟩ := hrel
      match gk, hig with
      | 0, hig =>
        obtain rfl : i = 3 := by omega
        have hnx := run_next_end (P := Tryd.prog) w ⟨#[0, 10, 13]⟩ 3
        go_wp2
        go_ret
        exact ⟨rfl, xbelow_iter w _ _⟩
      | 1, hig =>
        obtain rfl : i = 2 := by omega
        have hnx := fun ty => run_next_ascii (P := Tryd.prog) w ⟨#[0, 10, 13]⟩ 2 ty (by decide) (by decide)
        go_wp2
        go_roundg 0
        case measure => omega
        case rel => exact ⟨3, by omega, rfl⟩
      | 2, hig =>
        obtain rfl : i = 1 := by omega
        have hnx := fun ty => run_next_ascii (P := Tryd.prog) w ⟨#[0, 10, 13]⟩ 1 ty (by decide) (by decide)
        go_wp2
        go_roundg 1
        case measure => omega
        case rel => exact ⟨2, by omega, rfl⟩
      | 3, hig =>
        obtain rfl : i = 0 := by omega
        have hnx := fun ty => run_next_ascii (P := Tryd.prog) w ⟨#[0, 10, 13]⟩ 0 ty (by decide) (by decide)
        go_wp2
        go_roundg 2
        case measure => omega
        case rel => exact ⟨1, by omega, rfl⟩
      | g + 4, hig => omega
  · have he' : (r == 65533) = false := by rw [beq_eq_false_iff_ne]; exact he
    have hcv : ∀ w : World, Calls Tryd.prog 117 #[.int .i32 r] w fun e w' => e = .returned (.bool (Lib.validRune r)) ∧ w' = w := fun w => Tryd.utf8_ValidRune _ w
    have hvv : Lib.validRune r = true ∨ Lib.validRune r = false := by cases Lib.validRune r <;> simp
    rcases hvv with hv | hv
    rotate_left
    · rw [hv] at hcv
      clear hv h2 he
      go_enter Tryd.func95, Tryd.ntmps95
      go_wp2_with (go_at_call 117; refine (hcv _).mono ?_; rintro e w' ⟨rfl, rfl⟩)
      go_ret
      exact ⟨rfl, Below.refl _ _⟩
    · obtain ⟨X, hX⟩ : ∃ X, Utf8.encode r = X := ⟨_, rfl⟩
      have hvu : Utf8.valid r = true := by
        have := of_decide_eq_true hv
        simp only [Utf8.valid, Bool.or_eq_true, Bool.and_eq_true, decide_eq_true_eq]
        omega
      have hf := encode_facts r hvu (by omega)
      rw [hX] at hf
      obtain ⟨f1, f2, f3⟩ := hf
      have HF := hid f3
      rw [hv] at hcv
      clear f3 hv hvu h2 he
      by_cases hx : X.size = 2
      · obtain ⟨a, b, rfl⟩ : ∃ a b : UInt8, X = ⟨#[a, b]⟩ := by
          obtain ⟨⟨L⟩⟩ := X
          match L, hx with
          | [a, b], _ => exact ⟨a, b, rfl⟩
        have hb : 128 ≤ b.toNat := HF.out (show 1 < 2 by decide)
        have hb8 : b.toNat < 256 := b.toNat_lt
        have hb1 : ((((⟨#[0, 10, 13]⟩ : ByteArray)[1]'(show 1 < 3 by decide)).toNat : Int) != (((⟨#[a, b]⟩ : ByteArray)[1]'(show 1 < 2 by decide)).toNat : Int)) = true := by
          show (((10 : UInt8).toNat : Int) != (b.toNat : Int)) = true
          have : (10 : UInt8).toNat = 10 := rfl
          simp only [bne_iff_ne, ne_eq]
          omega
        have HIB := hid (show Lib.indexByte ((⟨#[0, 10, 13]⟩ : ByteArray).extract 2 3).data.toList ((((⟨#[a, b]⟩ : ByteArray)[1]'(show 1 < 2 by decide)).toNat : Int)).toNat.toUInt8 = -1 by
          have e1 : ((⟨#[0, 10, 13]⟩ : ByteArray).extract 2 3).data.toList = [13] := by rw [Lib.extract_data]; rfl
          have e2 : ((((⟨#[a, b]⟩ : ByteArray)[1]'(show 1 < 2 by decide)).toNat : Int)).toNat.toUInt8 = b := by
            show ((b.toNat : Int)).toNat.toUInt8 = b
            simp
          rw [e1, e2]
          have hne : (13 : UInt8) ≠ b := fun e => by rw [← e] at hb; revert hb; decide
          simp [Lib.indexByte, hne])
        clear hx f1 f2 HF
        go_enter Tryd.func95, Tryd.ntmps95
        go_wp2_with (go_at_call 117; refine (hcv _).mono ?_; rintro e w' ⟨rfl, rfl⟩)
        go_step3
        go_wp2
        go_loop [9] (fun i => i = .int .i64 1) (fun _ => 0)
        case atStart => rfl
        case round =>
          subst hrel
          go_wp2
          go_step3
          go_wp2
          go_region
          go_wp2
          go_region_with (go_at_call 116; refine (Tryd.strings_IndexByte _ _ _).mono ?_; rintro e w'' ⟨rfl, rfl⟩; rw [HIB.out])
          all_goals
            go_wp2
            rw [Exit.noGoto_ret]
            go_wp2
            rw [Exit.noGoto_ret]
            go_wp2
            go_ret
            exact ⟨rfl, (Below.refl _ _).drew.drew⟩
      · by_cases hx3 : X.size = 3
        · obtain ⟨a, b, c, rfl⟩ : ∃ a b c : UInt8, X = ⟨#[a, b, c]⟩ := by
            obtain ⟨⟨L⟩⟩ := X
            match L, hx3 with
            | [a, b, c], _ => exact ⟨a, b, c, rfl⟩
          have hb : 128 ≤ c.toNat := HF.out (show 2 < 3 by decide)
          have hb8 : c.toNat < 256 := c.toNat_lt
          have hb1 : ((((⟨#[0, 10, 13]⟩ : ByteArray)[2]'(show 2 < 3 by decide)).toNat : Int) != (((⟨#[a, b, c]⟩ : ByteArray)[2]'(show 2 < 3 by decide)).toNat : Int)) = true := by
            show (((13 : UInt8).toNat : Int) != (c.toNat : Int)) = true
            have : (13 : UInt8).toNat = 13 := rfl
            simp only [bne_iff_ne, ne_eq]
            omega
          clear hx hx3 f1 f2 HF
          go_enter Tryd.func95, Tryd.ntmps95
          go_wp2_with (go_at_call 117; refine (hcv _).mono ?_; rintro e w' ⟨rfl, rfl⟩)
          go_step3
          go_wp2
          go_loop [9] (fun i => i = .int .i64 2) (fun _ => 0)
          case atStart => rfl
          case round =>
            subst hrel
            go_wp2
            go_step3
            go_wp2
            go_region
            go_wp2
            go_region_with (go_at_call 116; refine (Tryd.strings_IndexByte _ _ _).mono ?_; rintro e w'' ⟨rfl, rfl⟩)
            all_goals
              go_wp2
              rw [Exit.noGoto_ret]
              go_wp2
              rw [Exit.noGoto_ret]
              go_wp2
              go_ret
              exact ⟨rfl, (Below.refl _ _).drew.drew⟩
        · have f1' : (4 : Int) ≤ (X.size : Int) := by omega
          have f2' : (X.size : Int) ≤ 4 := by omega
          go_enter Tryd.func95, Tryd.ntmps95
          go_wp2_with (go_at_call 117; refine (hcv _).mono ?_; rintro e w' ⟨rfl, rfl⟩)
          go_step3
          go_wp2
          go_loop [9] (fun i => i = .int .i64 ((X.size : Int) - 1)) (fun _ => 0)
          case atStart => rfl
          case round =>
            subst hrel
            go_wp2
            go_ret
            exact ⟨rfl, Below.refl _ _⟩

set_option maxHeartbeats 2000000 in
set_option maxRecDepth 100000 in
theorem xindexAny2_short (s : ByteArray) (w : World) (h8 : s.size ≤ 8) :
    Calls Tryd.prog 71 #[.string s, .string ⟨#[0, 10, 13]⟩] w fun e w' => e = .returned (.int .i64 (Lib.indexAny s.data.toList [0, 10, 13])) ∧ Below w.heap.size w w' := by
  have h8z : decide ((8 : Int) < (s.size : Int)) = false := decide_eq_false (by omega)
  go_enter Tryd.func71, Tryd.ntmps71
  go_wp2_with (go_at_call 96; refine (Tryd.strings_shouldUseASCIISet _ _).mono ?_; rintro e w' ⟨rfl, hw⟩; rw [hw, h8z])
  go_loopg [9, 10] s.size (fun g _ _ wx => ∃ i : Nat, i + g = s.size ∧ wx.heap[w.heap.size]? = some (.stringIter s i) ∧ Below w.heap.size w wx ∧ Lib.NoAny s.data.toList [0, 10, 13] i)
  case atStart => exact ⟨0, by omega, by simp [World.iter_heap], xbelow_iter w _ _, Lib.NoAny.zero _ _⟩
  case round =>
    obtain ⟨i, hig, hit, hbw, hno⟩ := hrel
    have HN := hid hno
    have HI := hid hit
    clear hno hit
    by_cases hi : i < s.size
    · obtain ⟨x, hx⟩ : ∃ x : UInt8, s[i]'hi = x := ⟨_, rfl⟩
      have hxl : s.data.toList[i]? = some x := by rw [← hx]; exact Lib.data_getElem? s i hi
      by_cases ha : x.toNat < 128
      · have hnx := fun ty => Lib.run_next_ascii_at (P := Tryd.prog) wr w.heap.size s i ty HI.out hi (by rw [hx]; exact ha)
        rw [hx] at hnx
        have HK := hid (Lib.iterAt_heap wr w.heap.size s i (i + 1) HI.out)
        have HB2 := hid (Lib.below_iterAt hbw (Nat.le_refl _) s (i + 1))
        have Hx := hid hxl
        clear hxl hx
        have hcon := Lib.contains_iff_indexByte [0, 10, 13] x
        have hback : ((x.toNat : Int)).toNat.toUInt8 = x := by simp
        cases hin : [(0 : UInt8), 10, 13].contains x
        · rw [hin] at hcon
          have hlt : ¬ ((0 : Int) ≤ Lib.indexByte [0, 10, 13] x) := of_decide_eq_false hcon.symm
          have Hin := hid hin
          clear hcon hin
          go_wp2_with (go_at_call 95; refine (Tryd.strings_IndexRune_ascii _ _ _ (by omega) (by omega)).mono ?_; rintro e w' ⟨rfl, hw⟩; rw [hw, hback])
          go_roundg (gk - 1)
          case measure => omega
          case rel => exact ⟨i + 1, by omega, HK.out, HB2.out, HN.out.succ Hx.out Hin.out⟩
        · rw [hin] at hcon
          have hge : (0 : Int) ≤ Lib.indexByte [0, 10, 13] x := of_decide_eq_true hcon.symm
          have Hin := hid hin
          clear hcon hin
          go_wp2_with (go_at_call 95; refine (Tryd.strings_IndexRune_ascii _ _ _ (by omega) (by omega)).mono ?_; rintro e w' ⟨rfl, hw⟩; rw [hw, hback])
          go_ret
          exact ⟨by rw [Lib.indexAny_hit HN.out Hx.out Hin.out]; rfl, HB2.out⟩
      · obtain ⟨r, n, hd, hr1, hr2, hn1, hn2, hj⟩ := xdecode_skip s i hi (by rw [hx]; omega)
        have hnx := fun ty => Lib.run_next_any_at (P := Tryd.prog) wr w.heap.size s i ty HI.out hi
        rw [hd] at hnx
        have HK := hid (Lib.iterAt_heap wr w.heap.size s i (i + n) HI.out)
        have HB2 := hid (Lib.below_iterAt hbw (Nat.le_refl _) s (i + n))
        have HN2 := hid (xnoAny_skip s i n HN.out hn2 hj)
        clear hxl hx hj hd
        have hr1' : (128 : Int) ≤ (r : Int) := by omega
        have HRx := hid (show (r : Int) ≤ 1114111 by omega)
        clear hr2
        go_wp2_with (go_at_call 95; refine (xindexRune_high _ _ hr1' HRx.out).mono ?_; rintro e w2 ⟨rfl, hb2⟩)
        go_roundg (gk - n)
        case measure => omega
        case rel =>
          refine ⟨i + n, by omega, ?_, HB2.out.trans (hb2.mono ?_), HN2.out⟩
          · rw [hb2.block _ (Array.getElem?_eq_some_iff.1 HK.out).1]; exact HK.out
          · exact HB2.out.size
    · obtain rfl : i = s.size := by omega
      have hnx := fun ty => Lib.run_next_end_at (P := Tryd.prog) wr w.heap.size s s.size ty HI.out hi
      go_wp2
      go_ret
      exact ⟨by rw [Lib.indexAny_none (by rw [← Lib.size_eq]; exact HN.out)]; rfl, hbw⟩

theorem xzero87 (w : World) : (zeroValue 98).run Tryd.prog w = .ok (.agg (Array.replicate 256 (.bool false))) w := (zero_of_info (P := Tryd.prog) (n := 256) (by kernel_rfl)).1 w


end Go.Proofs.YtplabofdcnpcpaaDoor

namespace Go.Proofs.YtplabofdcnpcpaaDoor
open Go.RowKit

set_option maxHeartbeats 2000000 in
set_option maxRecDepth 100000 in
theorem xindexAny3_long (s : ByteArray) (w : World) (h8 : 8 < s.size) (hs : s.size ≤ 9223372036854775807) :
    Calls Tryd.prog 71 #[.string s, .string ⟨#[0, 10, 13]⟩] w fun e w' => e = .returned (.int .i64 (Lib.indexAny s.data.toList [0, 10, 13])) ∧ Below w.heap.size w w' := by
  have hM := Tryd.strings_makeASCIISet xzero87 ⟨#[0, 10, 13]⟩ w (by decide) (ascii_of_all (by decide))
  rw [show (⟨#[0, 10, 13]⟩ : ByteArray).data.toList = [0, 10, 13] from rfl] at hM
  have h8z : decide ((8 : Int) < (s.size : Int)) = true := decide_eq_true (by omega)
  obtain ⟨C, hC⟩ : ∃ C, C = Lib.setCells [0, 10, 13] := ⟨_, rfl⟩
  have hsz : C.size = 256 := by rw [hC]; exact Lib.setCells_size _
  have hat : ∀ x : UInt8, C[x.toNat]? = some (.bool ([(0 : UInt8), 10, 13].contains x)) := fun x => by rw [hC]; exact Lib.setCells_at _ _
  rw [← hC] at hM
  have HA := hid hat
  have hi256 : (Tryd.prog.info? 98).map (·.size) = some 256 := by kernel_rfl
  have hall : C.all (·.oneCell') = true := by
    rw [Array.all_eq_true]
    intro i hi
    have := HA.out (UInt8.ofNat i)
    rw [show (UInt8.ofNat i).toNat = i by simp [UInt8.toNat_ofNat']; omega, Array.getElem?_eq_getElem hi] at this
    rw [Option.some.inj this]; rfl
  have hsc : (storeCells ⟨w.heap.size + 1, 0, none⟩ C.toList 0).run Tryd.prog ((w.alloc (.cells C 98)).alloc (.cells Tryd.zeroCells98 98)) = .ok () ((w.alloc (.cells C 98)).alloc (.cells C 98)) := by
    have := run_storeCells_new (P := Tryd.prog) (w.alloc (.cells C 98)) 98 Tryd.zeroCells98 C (by rw [hsz]; exact hi256) (by rw [hsz]; kernel_rfl) hall
    simpa using this
  clear hat hC hall
  go_enter Tryd.func71, Tryd.ntmps71
  go_wp2_with (first
    | (go_at_call 96; refine (Tryd.strings_shouldUseASCIISet _ _).mono ?_; rintro e w' ⟨rfl, hw⟩; rw [hw, h8z])
    | (go_at_call 59; refine hM.mono ?_; rintro e w' ⟨rfl, hw⟩; rw [hw]))
  clear hM hsc
  obtain ⟨W2, hW2⟩ : ∃ W2, W2 = (w.alloc (.cells C 98)).alloc (.cells C 98) := ⟨_, rfl⟩
  have hb2 : Below w.heap.size w W2 := by rw [hW2]; exact belowA (belowA (Below.refl _ _) _) _
  have hc2 : ∀ x : UInt8, W2.cell? ⟨w.heap.size + 1, x.toNat, none⟩ = some (.bool ([(0 : UInt8), 10, 13].contains x)) := fun x => by
    have hh : W2.heap[w.heap.size + 1]? = some (.cells C 98 (0, 0)) := by
      rw [hW2]
      have := heap_alloc_new (w.alloc (.cells C 98)) (.cells C 98)
      simpa using this
    rw [Lib.cell_of_heap hh]
    exact HA.out x
  rw [← hW2]
  have HC := hid hc2
  have HB := hid hb2
  clear hW2 hc2 hb2
  go_loopg [8] s.size (fun g s8 wx => ∃ i : Nat, i + g = s.size ∧ s8 = .int .i64 i ∧ wx = W2 ∧ Lib.NoAny s.data.toList [0, 10, 13] i)
  case atStart => exact ⟨0, by omega, rfl, rfl, Lib.NoAny.zero _ _⟩
  case round =>
    obtain ⟨i, hig, rfl, rfl, hno⟩ := hrel
    have HN := hid hno
    clear hno
    by_cases hi : i < s.size
    · have hiz : (i : Int) < (s.size : Int) := by omega
      obtain ⟨x, hx⟩ : ∃ x : UInt8, s[i]'hi = x := ⟨_, rfl⟩
      have Hx := hid (show s.data.toList[i]? = some x by rw [← hx]; exact Lib.data_getElem? s i hi)
      have hcx := HC.out x
      cases hin : [(0 : UInt8), 10, 13].contains x <;> rw [hin] at hcx
      · have Hin := hid hin
        clear hin
        go_wp2_with (go_at_call 81; refine (Tryd.asciiSet_contains _ x _ _ hcx).mono ?_; rintro e w' ⟨rfl, hw⟩; rw [hw])
        go_roundg (gk - 1)
        case measure => omega
        case rel => exact ⟨i + 1, by omega, by go_num, rfl, HN.out.succ Hx.out Hin.out⟩
      · have Hin := hid hin
        clear hin
        go_wp2_with (go_at_call 81; refine (Tryd.asciiSet_contains _ x _ _ hcx).mono ?_; rintro e w' ⟨rfl, hw⟩; rw [hw])
        go_ret
        exact ⟨by rw [Lib.indexAny_hit HN.out Hx.out Hin.out]; rfl, HB.out⟩
    · obtain rfl : i = s.size := by omega
      have hiz : ¬ ((s.size : Int) < (s.size : Int)) := by omega
      go_wp2
      go_ret
      exact ⟨by rw [Lib.indexAny_none (by rw [← Lib.size_eq]; exact HN.out)]; rfl, HB.out⟩

theorem xindexAny3_any (s : ByteArray) (w : World) (hs : s.size ≤ 9223372036854775807) :
    Calls Tryd.prog 71 #[.string s, .string ⟨#[0, 10, 13]⟩] w fun e w' => e = .returned (.int .i64 (Lib.indexAny s.data.toList [0, 10, 13])) ∧ Below w.heap.size w w' := by
  by_cases h : s.size ≤ 8
  · exact xindexAny2_short s w h
  · exact xindexAny3_long s w (by omega) hs

def badC (c : UInt8) : Bool := c == 0 || (c == 10 || c == 13)

theorem indexAny_bad (l : List UInt8) : decide ((0 : Int) ≤ Lib.indexAny l [0, 10, 13]) = l.any badC := by
  induction l with
  | nil => rfl
  | cons c l ih =>
    have hge := Lib.indexAny_ge [0, 10, 13] l
    have hc : [(0 : UInt8), 10, 13].contains c = badC c := by
      rw [Bool.eq_iff_iff]; simp [badC]
    have e : Lib.indexAny (c :: l) [0, 10, 13] = if [(0 : UInt8), 10, 13].contains c then 0 else if Lib.indexAny l [0, 10, 13] == -1 then -1 else Lib.indexAny l [0, 10, 13] + 1 := rfl
    rw [List.any_cons, ← ih, ← hc, e]
    generalize Lib.indexAny l [0, 10, 13] = q at hge
    cases [(0 : UInt8), 10, 13].contains c with
    | true => simp
    | false =>
      by_cases h : q = -1
      · subst h; rfl
      · have h' : (q == -1) = false := by simpa using h
        rw [h']
        simp
        omega

set_option maxHeartbeats 1000000 in
theorem containsAny3_any (s : ByteArray) (w : World) (hs : s.size ≤ 9223372036854775807) :
    Calls Tryd.prog 79 #[.string s, .string ⟨#[0, 10, 13]⟩] w fun e w' => e = .returned (.bool (s.data.toList.any badC)) ∧ Below w.heap.size w w' := by
  have hI := hid (indexAny_bad s.data.toList)
  go_enter Tryd.func79, Tryd.ntmps79
  go_wp2_with fail
  refine (xindexAny3_any s _ hs).mono ?_
  rintro e w1 ⟨rfl, hb1⟩
  go_wp2
  go_ret
  exact ⟨ret_bool hI.out, hb1⟩

/-- A value as a header may carry it. -/
def valT (l : List UInt8) : List UInt8 := Lib.trimS l [9, 10, 13, 32]
def valB (l : List UInt8) : Bool := !(valT l).any badC

theorem trimS_le (l c : List UInt8) : (Lib.trimS l c).length ≤ l.length := by
  unfold Lib.trimS Lib.trimLeftS Lib.trimRightS
  have h1 := (List.dropWhile_sublist (l := l.reverse) (c.contains ·)).length_le
  have h2 := (List.dropWhile_sublist (l := (l.reverse.dropWhile (c.contains ·)).reverse) (c.contains ·)).length_le
  simp at h1 h2 ⊢
  omega

/-- What Value answers: the text without blanks at its ends; the empty one, if it may not be. -/
def valA (l : List UInt8) : List UInt8 := if valB l then valT l else []

set_option maxHeartbeats 1000000 in
theorem value_any (s : ByteArray) (w : World) (hs : s.size ≤ 9223372036854775807) :
    Calls Tryd.prog 54 #[.string s] w fun e w' => e = .returned (.tuple #[.string ⟨(valA s.data.toList).toArray⟩, .bool (valB s.data.toList)]) ∧ Below w.heap.size w w' := by
  obtain ⟨T, hT⟩ : ∃ x : ByteArray, x = ⟨(valT s.data.toList).toArray⟩ := ⟨_, rfl⟩
  have hTs : T.size ≤ 9223372036854775807 := by have := trimS_le s.data.toList [9, 10, 13, 32]; rw [hT, xsize]; unfold valT; simp at this; omega
  obtain ⟨bd, hbd⟩ : ∃ x, x = T.data.toList.any badC := ⟨_, rfl⟩
  have HB := hid (show valB s.data.toList = !bd by rw [hbd, hT]; rfl)
  have HA := hid (show valA s.data.toList = if (!bd) = true then T.data.toList else [] by unfold valA; rw [HB.out, hT])
  have HTr : Hid (∀ w : World, Calls Tryd.prog 31 #[.string s, .string ⟨#[9, 10, 13, 32]⟩] w fun e w' => e = .returned (.string T) ∧ Below w.heap.size w w') := fun w => by
    have := trim5_any s ⟨#[9, 10, 13, 32]⟩ w hs (by decide) (by decide)
    rw [show (⟨#[9, 10, 13, 32]⟩ : ByteArray).data.toList = [9, 10, 13, 32] from rfl, show (⟨(Lib.trimS s.data.toList [9, 10, 13, 32]).toArray⟩ : ByteArray) = T from hT.symm] at this
    exact this
  have HCo : Hid (∀ w : World, Calls Tryd.prog 79 #[.string T, .string ⟨#[0, 10, 13]⟩] w fun e w' => e = .returned (.bool bd) ∧ Below w.heap.size w w') := fun w => by
    have := containsAny3_any T w hTs
    rw [← hbd] at this
    exact this
  clear hT hbd
  cases bd with
  | true =>
    go_enter Tryd.func54, Tryd.ntmps54
    go_wp2_with fail
    refine (HTr.out _).mono ?_
    rintro e w1 ⟨rfl, hb1⟩
    go_wp2_with fail
    refine (HCo.out _).mono ?_
    rintro e w2 ⟨rfl, hb2⟩
    go_wp2
    go_ret2
    exact ⟨xret_sb (xext (by rw [HA.out]; rfl)) (by rw [HB.out]; rfl), belowT hb1 hb2⟩
  | false =>
    go_enter Tryd.func54, Tryd.ntmps54
    go_wp2_with fail
    refine (HTr.out _).mono ?_
    rintro e w1 ⟨rfl, hb1⟩
    go_wp2_with fail
    refine (HCo.out _).mono ?_
    rintro e w2 ⟨rfl, hb2⟩
    go_wp2
    go_ret2
    exact ⟨xret_sb (xext (by rw [HA.out]; rfl)) (by rw [HB.out]; rfl), belowT hb1 hb2⟩

end Go.Proofs.YtplabofdcnpcpaaDoor

namespace Go.Proofs.YtplabofdcnpcpaaDoor
open Go.RowKit

theorem results_h2 {fn : Func} {p q : Tmp} (h : fn.results = #[.cell p 38, .tmp q]) (tmps : Array Value) (w : World) (b : Nat) (n v : ByteArray) (hp : tmps.getD p undef = .pointer (some ⟨b, 0, none⟩)) (hc : w.rangeAt b 0 [.string n, .string v]) : (results fn tmps).run Tryd.prog w = .ok (.tuple #[hdVal n v, tmps.getD q undef]) w := by
  rw [Array.getD_eq_getD_getElem?] at hp
  simp only [results, h]
  simp [Sem.run_bind, Result.andThen, hp, asAddr, run_loadVar_mid w b 0 38 [.string n, .string v] _ hc Tryd.underlying38 rfl (by kernel_rfl), hdVal]

/-- Why a header may not be. -/
def hdE (n v : List UInt8) : Nat := if valB v = false ∨ tokL n = false then 1 else if 4096 < n.length ∨ 4096 < (valT v).length then 3 else 0

/-- The block b holds the header n: v. -/
def Two (w : World) (b : Nat) (n v : ByteArray) : Prop := w.heap[b]? = some (.cells #[.string n, .string v] 38 (0, 0))

theorem Two.range {w : World} {b : Nat} {n v : ByteArray} (h : Two w b n v) : w.rangeAt b 0 [.string n, .string v] := fun j u hu => by
  rw [Nat.zero_add, Lib.cell_of_heap h]
  match j, hu with
  | 0, hu => simpa using hu
  | 1, hu => simpa using hu
  | j + 2, hu => simp at hu

theorem Two.cells {w : World} {b : Nat} {n v : ByteArray} (h : Two w b n v) : w.cell? ⟨b, 0, none⟩ = some (.string n) ∧ w.cell? ⟨b, 1, none⟩ = some (.string v) ∧ w.frozen? ⟨b, 0, none⟩ = false ∧ w.frozen? ⟨b, 1, none⟩ = false :=
  ⟨by rw [Lib.cell_of_heap h]; rfl, by rw [Lib.cell_of_heap h]; rfl, Lib.frozen_of_heap h 0, Lib.frozen_of_heap h 1⟩

theorem Two.set {w : World} {b : Nat} {n v n' v' : ByteArray} (h : Two w b n v) : Two ((w.setCell ⟨b, 0, none⟩ (.string n')).setCell ⟨b, 1, none⟩ (.string v')) b n' v' := by
  have h1 := Lib.heap_setCell_same h (i := 0) (.string n')
  have h2 := Lib.heap_setCell_same h1 (i := 1) (.string v')
  exact h2

set_option maxHeartbeats 1000000 in
theorem header_any (n v : ByteArray) (w : World) (hn : n.size ≤ 140737488351232) (hv : v.size ≤ 9223372036854775807) :
    Calls Tryd.prog 26 #[.string n, .string v] w fun e w' => ∃ N V : ByteArray, e = .returned (.tuple #[hdVal N V, .int .i64 (hdE n.data.toList v.data.toList : Int)]) ∧ Below w.heap.size w w' ∧ (hdE n.data.toList v.data.toList = 0 → N = n ∧ V.data.toList = valT v.data.toList) := by
  obtain ⟨T, hT⟩ : ∃ x : ByteArray, x = ⟨(valA v.data.toList).toArray⟩ := ⟨_, rfl⟩
  obtain ⟨ok, hok⟩ : ∃ x, x = valB v.data.toList := ⟨_, rfl⟩
  obtain ⟨tk, htk⟩ : ∃ x, x = tokL n.data.toList := ⟨_, rfl⟩
  have HV : Hid (∀ w : World, Calls Tryd.prog 54 #[.string v] w fun e w' => e = .returned (.tuple #[.string T, .bool ok]) ∧ Below w.heap.size w w') := fun w => by
    have := value_any v w hv
    rw [← hT, ← hok] at this
    exact this
  have HTk : Hid (∀ w : World, Calls Tryd.prog 46 #[.string n] w fun e w' => e = .returned (.bool tk) ∧ w = w') := fun w => by
    have := token_any n w hn
    rw [← htk] at this
    exact this
  have HE := hid (show hdE n.data.toList v.data.toList = if ok = false ∨ tk = false then 1 else if 4096 < n.size ∨ 4096 < (valT v.data.toList).length then 3 else 0 by unfold hdE; rw [hok, htk]; simp)
  have HT := hid (show ok = true → T.data.toList = valT v.data.toList by intro h; rw [hT]; show valA _ = _; unfold valA; rw [← hok, if_pos h])
  have hTs : T.size ≤ 9223372036854775807 := by
    rw [hT, xsize]; unfold valA
    split
    · have := trimS_le v.data.toList [9, 10, 13, 32]; unfold valT; simp at this; omega
    · simp
  clear hT hok htk
  have h0 : Two (w.alloc (.cells #[.string ByteArray.empty, .string ByteArray.empty] 38)) w.heap.size ByteArray.empty ByteArray.empty := heap_alloc_new _ _
  have H0 := hid h0
  clear h0
  cases ok with
  | false =>
    have HEk := hid (show hdE n.data.toList v.data.toList = 1 by rw [HE.out, if_pos (.inl rfl)])
    go_enter Tryd.func26, Tryd.ntmps26
    go_wp2_with fail
    refine (HV.out _).mono ?_
    rintro e w1 ⟨rfl, hb1⟩
    have hh1 : Two w1 w.heap.size ByteArray.empty ByteArray.empty := (hb1.block _ (by simp)).trans H0.out
    obtain ⟨c0, c1, f0, f1⟩ := hh1.cells
    have hbw : Below w.heap.size w w1 := (belowA (Below.refl _ w) _).trans (hb1.mono (by simp))
    have HH := hid hh1
    clear hh1
    go_wp2
    refine bodyPost_ret (results_h2 rfl _ _ w.heap.size ⟨#[]⟩ ⟨#[]⟩ rfl HH.out.set.range) rfl ⟨⟨#[]⟩, ⟨#[]⟩, ?_, ((hbw.setCell (p := ⟨w.heap.size, 0, none⟩) (Nat.le_refl _) _).setCell (p := ⟨w.heap.size, 1, none⟩) (Nat.le_refl _) _), ?_⟩
    · rw [HEk.out]; rfl
    · intro h; rw [HEk.out] at h; cases h
  | true =>
    cases tk with
    | false =>
      have HEk := hid (show hdE n.data.toList v.data.toList = 1 by rw [HE.out, if_pos (.inr rfl)])
      go_enter Tryd.func26, Tryd.ntmps26
      go_wp2_with fail
      refine (HV.out _).mono ?_
      rintro e w1 ⟨rfl, hb1⟩
      have hh1 : Two w1 w.heap.size ByteArray.empty ByteArray.empty := (hb1.block _ (by simp)).trans H0.out
      obtain ⟨c0, c1, f0, f1⟩ := hh1.cells
      have hbw : Below w.heap.size w w1 := (belowA (Below.refl _ w) _).trans (hb1.mono (by simp))
      have HH := hid hh1
      clear hh1
      go_wp2_with (go_at_call 46; refine (HTk.out _).mono ?_; rintro e w' ⟨rfl, rfl⟩)
      refine bodyPost_ret (results_h2 rfl _ _ w.heap.size ⟨#[]⟩ ⟨#[]⟩ rfl HH.out.set.range) rfl ⟨⟨#[]⟩, ⟨#[]⟩, ?_, ((hbw.setCell (p := ⟨w.heap.size, 0, none⟩) (Nat.le_refl _) _).setCell (p := ⟨w.heap.size, 1, none⟩) (Nat.le_refl _) _), ?_⟩
      · rw [HEk.out]; rfl
      · intro h; rw [HEk.out] at h; cases h
    | true =>
      have hTl : T.data.toList = valT v.data.toList := HT.out rfl
      have hTz : T.size = (valT v.data.toList).length := by rw [← hTl]; simp
      have hE2 : hdE n.data.toList v.data.toList = if 4096 < n.size ∨ 4096 < T.size then 3 else 0 := by rw [HE.out, if_neg (by simp), hTz]
      have HTl := hid hTl
      clear hTl hTz
      by_cases h1 : 4096 < n.size
      · have HEk := hid (show hdE n.data.toList v.data.toList = 3 by rw [hE2, if_pos (.inl h1)])
        have h1' : (4096 : Int) < (n.size : Int) := by omega
        clear hE2
        go_enter Tryd.func26, Tryd.ntmps26
        go_wp2_with fail
        refine (HV.out _).mono ?_
        rintro e w1 ⟨rfl, hb1⟩
        have hh1 : Two w1 w.heap.size ByteArray.empty ByteArray.empty := (hb1.block _ (by simp)).trans H0.out
        obtain ⟨c0, c1, f0, f1⟩ := hh1.cells
        have hbw : Below w.heap.size w w1 := (belowA (Below.refl _ w) _).trans (hb1.mono (by simp))
        have HH := hid hh1
        clear hh1
        go_wp2_with (go_at_call 46; refine (HTk.out _).mono ?_; rintro e w' ⟨rfl, rfl⟩)
        refine bodyPost_ret (results_h2 rfl _ _ w.heap.size ⟨#[]⟩ ⟨#[]⟩ rfl HH.out.set.range) rfl ⟨⟨#[]⟩, ⟨#[]⟩, ?_, ((hbw.setCell (p := ⟨w.heap.size, 0, none⟩) (Nat.le_refl _) _).setCell (p := ⟨w.heap.size, 1, none⟩) (Nat.le_refl _) _), ?_⟩
        · rw [HEk.out]; rfl
        · intro h; rw [HEk.out] at h; cases h
      · have h1' : decide ((4096 : Int) < (n.size : Int)) = false := by rw [decide_eq_false_iff_not]; omega
        by_cases h2 : 4096 < T.size
        · have HEk := hid (show hdE n.data.toList v.data.toList = 3 by rw [hE2, if_pos (.inr h2)])
          have h2' : (4096 : Int) < (T.size : Int) := by omega
          clear hE2
          go_enter Tryd.func26, Tryd.ntmps26
          go_wp2_with fail
          refine (HV.out _).mono ?_
          rintro e w1 ⟨rfl, hb1⟩
          have hh1 : Two w1 w.heap.size ByteArray.empty ByteArray.empty := (hb1.block _ (by simp)).trans H0.out
          obtain ⟨c0, c1, f0, f1⟩ := hh1.cells
          have hbw : Below w.heap.size w w1 := (belowA (Below.refl _ w) _).trans (hb1.mono (by simp))
          have HH := hid hh1
          clear hh1
          go_wp2_with (go_at_call 46; refine (HTk.out _).mono ?_; rintro e w' ⟨rfl, rfl⟩)
          refine bodyPost_ret (results_h2 rfl _ _ w.heap.size ⟨#[]⟩ ⟨#[]⟩ rfl HH.out.set.range) rfl ⟨⟨#[]⟩, ⟨#[]⟩, ?_, ((hbw.setCell (p := ⟨w.heap.size, 0, none⟩) (Nat.le_refl _) _).setCell (p := ⟨w.heap.size, 1, none⟩) (Nat.le_refl _) _), ?_⟩
          · rw [HEk.out]; rfl
          · intro h; rw [HEk.out] at h; cases h
        · have HEk := hid (show hdE n.data.toList v.data.toList = 0 by rw [hE2, if_neg (by omega)])
          have h2' : ¬ (4096 : Int) < (T.size : Int) := by omega
          clear hE2
          go_enter Tryd.func26, Tryd.ntmps26
          go_wp2_with fail
          refine (HV.out _).mono ?_
          rintro e w1 ⟨rfl, hb1⟩
          have hh1 : Two w1 w.heap.size ByteArray.empty ByteArray.empty := (hb1.block _ (by simp)).trans H0.out
          obtain ⟨c0, c1, f0, f1⟩ := hh1.cells
          have hbw : Below w.heap.size w w1 := (belowA (Below.refl _ w) _).trans (hb1.mono (by simp))
          have HH := hid hh1
          clear hh1
          go_wp2_with (go_at_call 46; refine (HTk.out _).mono ?_; rintro e w' ⟨rfl, rfl⟩)
          refine bodyPost_ret (results_h2 rfl _ _ w.heap.size n T rfl HH.out.set.range) rfl ⟨n, T, ?_, ((hbw.setCell (p := ⟨w.heap.size, 0, none⟩) (Nat.le_refl _) _).setCell (p := ⟨w.heap.size, 1, none⟩) (Nat.le_refl _) _), ?_⟩
          · rw [HEk.out]; rfl
          · exact fun _ => ⟨rfl, HTl.out⟩

def addE (L : List Hd) (n v : List UInt8) : Nat := if hdE n v ≠ 0 then hdE n v else if 64 ≤ L.length then 4 else 0

/-- What Add answers. -/
def AddPost (L : List Hd) (n v : List UInt8) (w : World) (e : Ending) (w' : World) : Prop :=
  Below w.heap.size w w' ∧ ((addE L n v ≠ 0 ∧ e = .returned (.tuple #[.slice none 0 0, .int .i64 (addE L n v : Int)])) ∨
    (addE L n v = 0 ∧ ∃ vv, e = .returned (.tuple #[vv, .int .i64 0]) ∧ w'.ownsRow w.heap.size 38 2 vv (L.length + 1) (cellsH (L ++ [⟨n, valT v⟩]))))

set_option maxHeartbeats 1000000 in
theorem add_any (vv : Value) (L : List Hd) (n v : ByteArray) (w : World) (h : HdAt w vv L) (hl : L.length ≤ 1000000) (hn : n.size ≤ 140737488351232) (hv : v.size ≤ 9223372036854775807) :
    Calls Tryd.prog 6 #[vv, .string n, .string v] w (AddPost L n.data.toList v.data.toList w) := by
  have HL := hid h
  obtain ⟨a1, c1, rfl, hc1, hm1, hv1⟩ := h.view
  clear h hv1
  obtain ⟨k, hk⟩ : ∃ k, k = hdE n.data.toList v.data.toList := ⟨_, rfl⟩
  have hk3 : k = 0 ∨ k = 1 ∨ k = 3 := by rw [hk]; unfold hdE; split; exact .inr (.inl rfl); split; exact .inr (.inr rfl); exact .inl rfl
  have HK := hid hk
  clear hk
  go_enter Tryd.func6, Tryd.ntmps6
  go_wp2_with fail
  refine (header_any n v _ hn hv).mono ?_
  rintro e w1 ⟨N, V, rfl, hb1, hNV⟩
  rw [← HK.out] at hNV
  rw [← HK.out]
  unfold hdVal
  rcases hk3 with rfl | hk3
  · obtain ⟨rfl, hV⟩ := hNV rfl
    have HV := hid hV
    clear hV hNV
    by_cases h64 : 64 ≤ L.length
    · have h64' : (64 : Int) ≤ (L.length : Int) := by omega
      have HA := hid (show addE L N.data.toList v.data.toList = 4 by unfold addE; rw [← HK.out]; simp [h64])
      go_wp2
      go_ret2
      refine ⟨belowA hb1 _, .inl ⟨by rw [HA.out]; decide, by rw [HA.out]; rfl⟩⟩
    · have h64' : ¬ (64 : Int) ≤ (L.length : Int) := by omega
      have HA := hid (show addE L N.data.toList v.data.toList = 0 by unfold addE; rw [← HK.out]; simp [h64])
      have hba := belowA hb1 (.cells #[.string N, .string V] 38)
      have HW := hid (with_any _ L N V _ (HL.out.kept hba) hl)
      unfold hdVal at HW
      go_wp2_with fail
      refine HW.out.mono ?_
      rintro e w2 ⟨v2, rfl, hown2, hb2⟩
      have HO := hid hown2
      clear hown2
      go_wp2
      go_ret2
      refine ⟨belowT hba hb2, .inr ⟨HA.out, _, rfl, ?_⟩⟩
      have := HO.out
      rw [HV.out, List.length_append] at this
      rcases this.2 with ⟨h1, h2⟩ | ⟨g, cap, cur, e1, e2, e3⟩
      · simp at h2
      · exact ⟨this.1, .inr ⟨g, cap, cur, e1, Nat.le_trans hba.size e2, e3⟩⟩
  · have hkz : k ≠ 0 := by omega
    have HA := hid (show addE L n.data.toList v.data.toList = k by unfold addE; rw [← HK.out, if_pos hkz])
    rcases hk3 with rfl | rfl
    · go_wp2
      go_ret2
      refine ⟨belowA hb1 _, .inl ⟨by rw [HA.out]; decide, by rw [HA.out]; rfl⟩⟩
    · go_wp2
      go_ret2
      refine ⟨belowA hb1 _, .inl ⟨by rw [HA.out]; decide, by rw [HA.out]; rfl⟩⟩

end Go.Proofs.YtplabofdcnpcpaaDoor

namespace Go.Proofs.YtplabofdcnpcpaaDoor
open Go.RowKit

/-- The headers of other names. -/
def dropV (L : List Hd) (n : List UInt8) : List Hd := L.filter fun h => !isN n h

theorem dropV_snoc (L : List Hd) (h : Hd) (n : List UInt8) : dropV (L ++ [h]) n = dropV L n ++ (if isN n h then [] else [h]) := by
  unfold dropV
  rw [List.filter_append]
  by_cases hh : isN n h = true <;> simp [hh]

theorem dropV_len (L : List Hd) (n : List UInt8) : (dropV L n).length ≤ L.length := List.length_filter_le _ _

theorem hd_eta (h : Hd) (a b : ByteArray) (ha : a = ⟨h.name.toArray⟩) (hb : b = ⟨h.value.toArray⟩) : [Value.string a, .string b] = cellsH [h] := by rw [ha, hb]; rfl

/-- It is no nil slice. -/
def NonNil (v : Value) : Prop := v ≠ .slice none 0 0

/-- A list of headers in a block of its own, as it is answered. -/
def HdPost2 (L : List Hd) (w : World) (e : Ending) (w' : World) : Prop := ∃ v, e = .returned v ∧ w'.ownsRow w.heap.size 38 2 v L.length (cellsH L) ∧ Below w.heap.size w w' ∧ NonNil v

theorem NonNil.form {w : World} {B n : Nat} {e : TypeId} {k : Nat} {v : Value} {xs : List Value} (h : NonNil v) (ho : w.ownsRow B e k v n xs) : ∃ g cap, v = .slice (some ⟨g, 0, none⟩) n cap ∧ n ≤ cap ∧ cap ≤ maxLen := by
  rcases ho.2 with ⟨hv, _⟩ | ⟨g, cap, cur, rfl, _, _, h1, h2, _⟩
  · exact absurd hv h
  · exact ⟨g, cap, rfl, h1, h2⟩

set_option maxHeartbeats 2000000 in
set_option maxRecDepth 100000 in
theorem drop_any (v : Value) (L : List Hd) (n : ByteArray) (w : World) (h : HdAt w v L) (hs : n.size ≤ 140737488351232) (hz : Szd 140737488351232 L) (hl : L.length ≤ 1000000) :
    Calls Tryd.prog 10 #[v, .string n] w (HdPost2 (dropV L n.data.toList) w) := by
  obtain ⟨a1, c1, rfl, hc1, hm1, hv1⟩ := h.view
  have V1 := hid hv1
  clear h hv1
  obtain ⟨i0, hi, hz0, hz1, hz2⟩ := info3 infoHd
  have HZ := hid hz
  clear hz
  obtain ⟨N, hN⟩ : ∃ N : ByteArray, N = ⟨(low n.data.toList).toArray⟩ := ⟨_, rfl⟩
  have HN := hid (show N.data.toList = low n.data.toList by rw [hN])
  have HNe := hid hN
  clear hN
  go_enter Tryd.func10, Tryd.ntmps10
  go_wp2_with fail
  refine (lower_any n _ hs).mono ?_
  rintro e w0 ⟨rfl, hb0⟩
  rw [← HNe.out]
  obtain ⟨w1, hmk, hown1, hgr1⟩ := run_make_own (P := Tryd.prog) w0 w0.heap.size 22 38 i0 _ 2 Tryd.underlying22 hi hz0 hz1 .i64 .i64 L.length (by rw [hz2]; omega) (by unfold maxLen; omega) (Nat.le_refl _)
  have hb1 : Below w.heap.size w w1 := hb0.grown hgr1 hb0.size (fun g hg => by cases hg)
  have hown1' : w1.ownsRow w.heap.size 38 2 (.slice (some ⟨w0.heap.size, 0, none⟩) 0 L.length) 0 [] := by
    rcases hown1.2 with ⟨h1, h2⟩ | ⟨g, cap, cur, e1, e2, e3⟩
    · cases h1
    · exact ⟨hown1.1, .inr ⟨g, cap, cur, e1, Nat.le_trans hb0.size e2, e3⟩⟩
  have HO1 := hid hown1'
  have HB1 := hid hb1
  clear hown1 hown1' hgr1 hb1 hb0
  go_wp2
  go_loopw [5, 7, 15] (fun vv x i wr => ∃ k : Nat, k ≤ L.length ∧ i = .int .i64 k ∧ wr.ownsRow w.heap.size 38 2 vv (dropV (L.take k) n.data.toList).length (cellsH (dropV (L.take k) n.data.toList)) ∧ Below w.heap.size w wr ∧ NonNil vv)
    (fun _ _ i _ => L.length - (intOf i).toNat)
  case atStart => exact ⟨0, Nat.zero_le _, rfl, HO1.out, HB1.out, fun h => by cases h⟩
  case round =>
    obtain ⟨k, hk, rfl, hown, hbw, hnn⟩ := hrel
    have HO := hid hown
    have HNN := hid hnn
    clear hnn
    have hwr := hbw.size
    clear hown
    by_cases hlt : k < L.length
    · have hlt' : (k : Int) < (L.length : Int) := by omega
      obtain ⟨b1, o1, rfl, e1, e2⟩ := V1.out k hlt
      have f1 : wr.cell? ⟨b1, o1 + k * 2, none⟩ = some (.string ⟨L[k].name.toArray⟩) := (hbw.cell (World.block_lt_of_cell? w _ e1)).trans e1
      have f2 : wr.cell? ⟨b1, o1 + k * 2 + 1, none⟩ = some (.string ⟨L[k].value.toArray⟩) := (hbw.cell (World.block_lt_of_cell? w _ e2)).trans e2
      clear e1 e2
      obtain ⟨nm, hnm⟩ : ∃ x : ByteArray, x = ⟨L[k].name.toArray⟩ := ⟨_, rfl⟩
      obtain ⟨vl, hvl⟩ : ∃ x : ByteArray, x = ⟨L[k].value.toArray⟩ := ⟨_, rfl⟩
      rw [← hnm] at f1
      rw [← hvl] at f2
      have hsz : nm.size ≤ 140737488351232 := by rw [hnm, xsize]; exact (HZ.out _ (List.getElem_mem hlt)).1
      have HV := hid hvl
      have HM := hid hnm
      clear hnm hvl
      have HT := hid (show L.take (k + 1) = L.take k ++ [L[k]] by rw [List.take_add_one, List.getElem?_eq_getElem hlt]; rfl)
      obtain ⟨M, hM⟩ : ∃ x : ByteArray, x = ⟨(low nm.data.toList).toArray⟩ := ⟨_, rfl⟩
      have HMe := hid hM
      clear hM
      go_wp2_with fail
      refine (lower_any nm _ hsz).mono ?_
      rintro e w1 ⟨rfl, hb1⟩
      rw [← HMe.out]
      have hbw1 := (hbw.alloc hwr (.cells #[.string nm, .string vl] 38)).trans (hb1.mono (by simp; omega))
      have g1 : w1.cell? ⟨wr.heap.size, 0, none⟩ = some (.string nm) := (hb1.cell (p := ⟨wr.heap.size, 0, none⟩) (by simp)).trans (by simp [go_sem])
      have g2 : w1.cell? ⟨wr.heap.size, 1, none⟩ = some (.string vl) := (hb1.cell (p := ⟨wr.heap.size, 1, none⟩) (by simp)).trans (by simp [go_sem])
      have HO1 := hid (own_same (HO.out.alloc (.cells #[.string nm, .string vl] 38)) hb1)
      have hw1 := hbw1.size
      have hdl := dropV_len (L.take k) n.data.toList
      rw [List.length_take] at hdl
      by_cases hmn : M = N
      · subst hmn
        have HS := hid (show dropV (L.take (k + 1)) n.data.toList = dropV (L.take k) n.data.toList by
          rw [HT.out, dropV_snoc, if_pos, List.append_nil]
          rw [isN, beq_iff_eq, ← HN.out, HMe.out, HM.out])
        go_wp2
        go_roundw
        case rel =>
          refine ⟨k + 1, by omega, by go_num, ?_, hbw1, HNN.out⟩
          rw [HS.out]
          exact HO1.out
        case measure => simp [intOf]; omega
      · have hne := strNe hmn
        have HS := hid (show dropV (L.take (k + 1)) n.data.toList = dropV (L.take k) n.data.toList ++ [L[k]] by
          rw [HT.out, dropV_snoc, if_neg]
          rw [isN, beq_iff_eq, ← HN.out]
          intro e
          exact hmn (xba (by rw [← e, HMe.out, HM.out])))
        clear hmn
        go_wp2_with (at_builtin; go_must (refine wpList_append_own _ rfl _ _ 22 rfl w.heap.size 38 i0 _ 2 32 Tryd.underlying22 hi hz0 hz1 hz2 rfl (by decide) _ _ _ rfl (HO1.out.alloc _) ⟨w1.heap.size, 0, none⟩ 1 1 [.string nm, .string vl] rfl rfl ?c1 ?c2 ?c3 ?c4 ?c5 ?_))
        case c1 =>
          intro q u hq
          match q, hq with
          | 0, hq => simp at hq; subst hq; simp [Addr.add]
          | 1, hq => simp at hq; subst hq; simp [Addr.add]
        case c2 => intro u hu; simp at hu; rcases hu with rfl | rfl <;> rfl
        case c3 => unfold maxLen; omega
        case c4 => omega
        case c5 => simp; omega
        intro v' w2 hown' hgrow hnil
        have HO2 := hid hown'
        have HB2 := hid (show Below w.heap.size w w2 from (hbw1.alloc hw1 _).grown hgrow (by simp; omega) (fun g hg => (HO1.out.lt g hg).1))
        have HNN2 := hid (show NonNil v' from hnil)
        clear hown' hgrow hnil
        go_wp2
        go_roundw
        case rel =>
          refine ⟨k + 1, by omega, by go_num, ?_, HB2.out, HNN2.out⟩
          rw [HS.out, cellsH_app, List.length_append, ← hd_eta L[k] nm vl HM.out HV.out]
          exact HO2.out
        case measure => simp [intOf]; omega
    · have hke : k = L.length := by omega
      subst hke
      have HT := hid (show dropV (L.take L.length) n.data.toList = dropV L n.data.toList by rw [List.take_length])
      go_wp2
      go_ret
      refine ⟨_, rfl, ?_, hbw, HNN.out⟩
      rw [← HT.out]
      exact HO.out

/-- Where the first header of that name stands. -/
def firstV (L : List Hd) (n : List UInt8) : Option Nat := L.findIdx? (isN n)

set_option maxHeartbeats 2000000 in
set_option maxRecDepth 100000 in
theorem first_any (v : Value) (L : List Hd) (n : ByteArray) (w : World) (h : HdAt w v L) (hs : n.size ≤ 140737488351232) (hz : Szd 140737488351232 L) (hl : L.length ≤ 1000000) :
    Calls Tryd.prog 28 #[v, .string n] w fun e w' => Below w.heap.size w w' ∧ ((firstV L n.data.toList = none ∧ e = .returned (.int .i64 (-1))) ∨ ∃ k : Nat, firstV L n.data.toList = some k ∧ e = .returned (.int .i64 (k : Int))) := by
  obtain ⟨a1, c1, rfl, hc1, hm1, hv1⟩ := h.view
  have V1 := hid hv1
  clear h hv1
  have HZ := hid hz
  clear hz
  obtain ⟨N, hN⟩ : ∃ N : ByteArray, N = ⟨(low n.data.toList).toArray⟩ := ⟨_, rfl⟩
  have HN := hid (show N.data.toList = low n.data.toList by rw [hN])
  have HNe := hid hN
  clear hN
  go_enter Tryd.func28, Tryd.ntmps28
  go_wp2_with fail
  refine (lower_any n _ hs).mono ?_
  rintro e w0 ⟨rfl, hb0⟩
  rw [← HNe.out]
  go_wp2
  go_loopw [5, 6, 11] (fun y x i wr => ∃ k : Nat, k ≤ L.length ∧ i = .int .i64 k ∧ (∀ j (hj : j < L.length), j < k → isN n.data.toList L[j] = false) ∧ Below w.heap.size w wr)
    (fun _ _ i _ => L.length - (intOf i).toNat)
  case atStart => exact ⟨0, Nat.zero_le _, rfl, fun j _ h => absurd h (by omega), hb0⟩
  case round =>
    obtain ⟨k, hk, rfl, hno, hbw⟩ := hrel
    have HO := hid hno
    have hwr := hbw.size
    clear hno
    by_cases hlt : k < L.length
    · have hlt' : (k : Int) < (L.length : Int) := by omega
      obtain ⟨b1, o1, rfl, e1, e2⟩ := V1.out k hlt
      have f1 : wr.cell? ⟨b1, o1 + k * 2, none⟩ = some (.string ⟨L[k].name.toArray⟩) := (hbw.cell (World.block_lt_of_cell? w _ e1)).trans e1
      have f2 : wr.cell? ⟨b1, o1 + k * 2 + 1, none⟩ = some (.string ⟨L[k].value.toArray⟩) := (hbw.cell (World.block_lt_of_cell? w _ e2)).trans e2
      clear e1 e2
      obtain ⟨nm, hnm⟩ : ∃ x : ByteArray, x = ⟨L[k].name.toArray⟩ := ⟨_, rfl⟩
      obtain ⟨vl, hvl⟩ : ∃ x : ByteArray, x = ⟨L[k].value.toArray⟩ := ⟨_, rfl⟩
      rw [← hnm] at f1
      rw [← hvl] at f2
      have hsz : nm.size ≤ 140737488351232 := by rw [hnm, xsize]; exact (HZ.out _ (List.getElem_mem hlt)).1
      have HM := hid hnm
      clear hnm hvl
      obtain ⟨M, hM⟩ : ∃ x : ByteArray, x = ⟨(low nm.data.toList).toArray⟩ := ⟨_, rfl⟩
      have HMe := hid hM
      clear hM
      go_wp2_with fail
      refine (lower_any nm _ hsz).mono ?_
      rintro e w1 ⟨rfl, hb1⟩
      rw [← HMe.out]
      have hbw1 := (hbw.alloc hwr (.cells #[.string nm, .string vl] 38)).trans (hb1.mono (by simp; omega))
      by_cases hmn : M = N
      · subst hmn
        have HS := hid (show isN n.data.toList L[k] = true by rw [isN, beq_iff_eq, ← HN.out, HMe.out, HM.out])
        go_wp2
        go_ret
        refine ⟨hbw1, .inr ⟨k, ?_, rfl⟩⟩
        unfold firstV
        rw [List.findIdx?_eq_some_iff_getElem]
        exact ⟨hlt, HS.out, fun j hj => by have := HO.out j (by omega) hj; simp [this]⟩
      · have hne := strNe hmn
        have HS := hid (show isN n.data.toList L[k] = false by
          rw [isN, beq_eq_false_iff_ne, ← HN.out]
          intro e
          exact hmn (xba (by rw [← e, HMe.out, HM.out])))
        clear hmn
        go_wp2
        go_roundw
        case rel =>
          refine ⟨k + 1, by omega, by go_num, fun j hj hjk => ?_, hbw1⟩
          by_cases he : j = k
          · subst he; exact HS.out
          · exact HO.out j hj (by omega)
        case measure => simp [intOf]; omega
    · go_wp2
      go_ret
      refine ⟨hbw, .inl ⟨?_, rfl⟩⟩
      unfold firstV
      rw [List.findIdx?_eq_none_iff]
      intro x hx
      obtain ⟨j, hj, rfl⟩ := List.getElem_of_mem hx
      exact HO.out j hj (by omega)

end Go.Proofs.YtplabofdcnpcpaaDoor

namespace Go.Proofs.YtplabofdcnpcpaaDoor
open Go.RowKit

/-- An append to a row of the call's own, in a region that draws its order. -/
theorem xstep_append_own {P : Program} {ops : Array Oper} {o : Oper} {a : Act} {w : World} {K : Act → World → Prop} {Q : Exit → Act → World → Prop} {E : Prop} (hgd : o.guard = none) (s x : Operand) (t : TypeId)
    (ho : o.op = .call { callee := .builtin .append, args := #[s, x], argTypes := #[t, t] })
    (base : Nat) (e : TypeId) (i : TypeInfo) (z : Value) (size bytes : Nat) (ht : P.underlying t = some (.slice e)) (hi : P.info? e = some i) (hz : i.zero = some z)
    (hsize : i.size = size) (hby : i.bytes = bytes) (hzs : z.cells.size = size) (hsz : 0 < size)
    (v : Value) (n : Nat) (xs : List Value) (hs : a.eval s = v) (hown : w.ownsRow base e size v n xs)
    (ad : Addr) (m c : Nat) (news : List Value) (hx : a.eval x = .slice (some ad) m c) (hl : news.length = m * size) (hnews : ∀ j u, news[j]? = some u → w.cell? (ad.add j) = some u) (h1 : ∀ u ∈ news, u.oneCell' = true)
    (h63 : n + m ≤ maxLen) (hbytes : (n + m) * bytes ≤ 140737488355328) (hbase : base ≤ w.heap.size)
    (h : ∀ v' w', w'.ownsRow base e size v' (n + m) (xs ++ news) → w.grownBy w' v.ownBlock → (v' = .slice none 0 0 ↔ v = .slice none 0 0 ∧ m = 0) → K (a.put o.dst v') w') :
    if Region.wanted o (yielded ops a.tmps) = true then Oper.wp P o a w K Q else E := by
  rw [if_pos (by simp [Region.wanted, hgd])]
  exact wp_append_own w s x t ho base e i z size bytes ht hi hz hsize hby hzs hsz v n xs hs hown ad m c news hx hl hnews h1 h63 hbytes hbase h

theorem hd_take {w : World} {a : Option Addr} {n cap : Nat} {L : List Hd} (h : HdAt w (.slice a n cap) L) (k : Nat) (hk : k ≤ L.length) : HdAt w (.slice a k cap) (L.take k) := by
  obtain ⟨a', cap', e, h1, h2, h3⟩ := h
  cases e
  have hl : (L.take k).length = k := by simp; omega
  refine ⟨a, cap, by rw [hl], by omega, h2, fun j hj => ?_⟩
  rw [hl] at hj
  have := h3 j (by omega)
  simpa using this

theorem hd_drop {w : World} {b off n cap : Nat} {L : List Hd} (h : HdAt w (.slice (some ⟨b, off, none⟩) n cap) L) (k : Nat) (hk : k ≤ L.length) : HdAt w (.slice (some ⟨b, off + k * 2, none⟩) (n - k) (cap - k)) (L.drop k) := by
  obtain ⟨a', cap', e, h1, h2, h3⟩ := h
  cases e
  have hl : (L.drop k).length = L.length - k := by simp
  refine ⟨_, cap - k, by rw [hl], by omega, by omega, fun j hj => ?_⟩
  rw [hl] at hj
  obtain ⟨b', off', e, c1, c2⟩ := h3 (k + j) (by omega)
  cases e
  refine ⟨b, off + k * 2, rfl, ?_, ?_⟩
  · rw [show off + k * 2 + j * 2 = off + (k + j) * 2 by omega, c1]; simp
  · rw [show off + k * 2 + j * 2 = off + (k + j) * 2 by omega, c2]; simp

def setE (L : List Hd) (n v : List UInt8) : Nat := match firstV L n with | none => addE L n v | some _ => hdE n v

/-- The list with the value in the place of all that the name had. -/
def setV (L : List Hd) (n v : List UInt8) : List Hd := match firstV L n with
  | none => L ++ [⟨n, valT v⟩]
  | some k => L.take k ++ [⟨(L.getD k ⟨[], []⟩).name, valT v⟩] ++ dropV (L.drop (k + 1)) n

/-- What Set answers. -/
def SetPost (L : List Hd) (n v : List UInt8) (w : World) (e : Ending) (w' : World) : Prop :=
  Below w.heap.size w w' ∧ ((setE L n v ≠ 0 ∧ e = .returned (.tuple #[.slice none 0 0, .int .i64 (setE L n v : Int)])) ∨
    (setE L n v = 0 ∧ ∃ vv, e = .returned (.tuple #[vv, .int .i64 0]) ∧ w'.ownsRow w.heap.size 38 2 vv (setV L n v).length (cellsH (setV L n v))))

set_option maxHeartbeats 2000000 in
set_option maxRecDepth 100000 in
theorem set_any (vv : Value) (L : List Hd) (n v : ByteArray) (w : World) (h : HdAt w vv L) (hl : L.length ≤ 1000000) (hn : n.size ≤ 140737488351232) (hv : v.size ≤ 9223372036854775807) (hz : Szd 140737488351232 L) :
    Calls Tryd.prog 7 #[vv, .string n, .string v] w (SetPost L n.data.toList v.data.toList w) := by
  have HL := hid h
  have HZ := hid hz
  obtain ⟨i0, hi, hz0, hz1, hz2⟩ := info3 infoHd
  obtain ⟨a1, c1, rfl, hc1, hm1, hv1⟩ := h.view
  have V1 := hid hv1
  clear h hv1 hz
  go_enter Tryd.func7, Tryd.ntmps7
  go_wp2_with fail
  refine (first_any _ L n _ HL.out hn HZ.out hl).mono ?_
  rintro e w1 ⟨hb1, ⟨hf, rfl⟩ | ⟨k, hf, rfl⟩⟩
  · have HE := hid (show setE L n.data.toList v.data.toList = addE L n.data.toList v.data.toList by unfold setE; rw [hf])
    have HV := hid (show setV L n.data.toList v.data.toList = L ++ [⟨n.data.toList, valT v.data.toList⟩] by unfold setV; rw [hf])
    clear hf
    go_wp2_with fail
    refine (add_any _ L n v _ (HL.out.kept hb1) hl hn hv).mono ?_
    rintro e w2 ⟨hb2, ⟨hne, rfl⟩ | ⟨he, v2, rfl, hown2⟩⟩
    · go_wp2
      go_ret2
      refine ⟨belowT hb1 hb2, .inl ⟨by rw [HE.out]; exact hne, by rw [HE.out]; rfl⟩⟩
    · have HO := hid hown2
      clear hown2
      go_wp2
      go_ret2
      refine ⟨belowT hb1 hb2, .inr ⟨by rw [HE.out]; exact he, _, rfl, ?_⟩⟩
      rw [HV.out, List.length_append]
      rcases HO.out.2 with ⟨h1, h2⟩ | ⟨g, cap, cur, e1, e2, e3⟩
      · simp at h2
      · exact ⟨HO.out.1, .inr ⟨g, cap, cur, e1, Nat.le_trans hb1.size e2, e3⟩⟩
  · have hkl : k < L.length := by unfold firstV at hf; rw [List.findIdx?_eq_some_iff_getElem] at hf; exact hf.1
    have HE := hid (show setE L n.data.toList v.data.toList = hdE n.data.toList v.data.toList by unfold setE; rw [hf])
    have HV := hid (show setV L n.data.toList v.data.toList = L.take k ++ [⟨L[k].name, valT v.data.toList⟩] ++ dropV (L.drop (k + 1)) n.data.toList by unfold setV; rw [hf]; simp [List.getD, hkl])
    clear hf
    have hk0 : ¬ (k : Int) < 0 := by omega
    obtain ⟨q, hq⟩ : ∃ q, q = hdE n.data.toList v.data.toList := ⟨_, rfl⟩
    have hk3 : q = 0 ∨ q = 1 ∨ q = 3 := by rw [hq]; unfold hdE; split; exact .inr (.inl rfl); split; exact .inr (.inr rfl); exact .inl rfl
    have HQ := hid hq
    clear hq
    go_wp2_with fail
    refine (header_any n v _ hn hv).mono ?_
    rintro e w2 ⟨N, V, rfl, hb2, hNV⟩
    rw [← HQ.out] at hNV
    rw [← HQ.out]
    unfold hdVal
    have hbw2 := belowT hb1 hb2
    have HB3 := hid (belowA hbw2 (.cells #[.string N, .string V] 38))
    have HTwo : Hid (Two (w2.alloc (.cells #[.string N, .string V] 38)) w2.heap.size N V) := heap_alloc_new _ _
    obtain ⟨W3, hW3⟩ : ∃ W3, W3 = w2.alloc (.cells #[.string N, .string V] 38) := ⟨_, rfl⟩
    rcases hk3 with rfl | hk3
    · obtain ⟨rfl, hVv⟩ := hNV rfl
      have HVv := hid hVv
      clear hVv hNV
      have hkl' : (k : Int) < (L.length : Int) := by omega
      obtain ⟨b1, o1, rfl, e1, e2⟩ := V1.out k hkl
      have f1 : (w2.alloc (.cells #[.string N, .string V] 38)).cell? ⟨b1, o1 + k * 2, none⟩ = some (.string ⟨L[k].name.toArray⟩) := (HB3.out.cell (World.block_lt_of_cell? w _ e1)).trans e1
      clear e1 e2
      clear hW3 W3
      obtain ⟨nk, hnk⟩ : ∃ x : ByteArray, x = ⟨L[k].name.toArray⟩ := ⟨_, rfl⟩
      rw [← hnk] at f1
      have HNk := hid (show nk.data.toList = L[k].name by rw [hnk])
      have HB4 := hid (belowA hbw2 (.cells #[.string nk, .string V] 38))
      clear hnk
      go_wp2_with fail
      obtain ⟨W, hW⟩ : ∃ W, W = w2.alloc (.cells #[.string nk, .string V] 38) := ⟨_, rfl⟩
      have hTW : Two W w2.heap.size nk V := by rw [hW]; exact heap_alloc_new _ _
      rw [← hW]
      rw [← hW] at HB4
      obtain ⟨g0, g1, _, _⟩ := hTW.cells
      have HLW := hid (HL.out.kept HB4.out)
      have hkc : (k : Int) ≤ (c1 : Int) := by omega
      have hk1c : (k : Int) + 1 ≤ (L.length : Int) := by omega
      have hk1n : ((k : Int) + 1).toNat = k + 1 := by omega
      have hlc : (L.length : Int) ≤ (c1 : Int) := by omega
      have hwrap : IntKind.i64.wrap ((k : Int) + 1) = (k : Int) + 1 := by rw [IntKind.wrap_i64]; omega
      have hq0 : (0 : Int) ≤ (k : Int) + 1 := by omega
      have hwl : w2.heap.size < W.heap.size := by rw [hW]; simp
      have HK := hid (fun (X : World) (hX : Below W.heap.size W X) => (⟨hX, (hX.cell hwl).trans g0, (hX.cell hwl).trans g1⟩ : Below W.heap.size W X ∧ X.cell? ⟨w2.heap.size, 0, none⟩ = some (.string nk) ∧ X.cell? ⟨w2.heap.size, 1, none⟩ = some (.string V)))
      have hbD : Below W.heap.size W W.drew := (Below.refl _ W).drew
      obtain ⟨C4, hC4⟩ : ∃ C, cellsH (L.take k ++ [⟨nk.data.toList, V.data.toList⟩]) = C := ⟨_, rfl⟩
      obtain ⟨C5, hC5⟩ : ∃ C, cellsH (dropV (L.drop (k + 1)) N.data.toList) = C := ⟨_, rfl⟩
      obtain ⟨m5, hm5⟩ : ∃ m, (dropV (L.drop (k + 1)) N.data.toList).length = m := ⟨_, rfl⟩
      have hm5l : m5 ≤ 1000000 := by have := dropV_len (L.drop (k + 1)) N.data.toList; simp at this; omega
      have HC5l := hid (show C5.length = m5 * 2 by rw [← hC5, ← hm5]; exact cellsH_len _)
      have HC5o := hid (show ∀ u ∈ C5, u.oneCell' = true by rw [← hC5]; exact cellsH_oneCell _)
      have HC4 := hid hC4
      have HC5 := hid hC5
      have HM5 := hid hm5
      have HVe := hid (show L.take k ++ [⟨L[k].name, valT v.data.toList⟩] = L.take k ++ [⟨nk.data.toList, V.data.toList⟩] by rw [HNk.out, HVv.out])
      clear hW hTW f1 HB3 HTwo hC4 hC5 hm5 hwl
      by_cases hce : c1 = k + 1
      · have HTL : Hid (HdAt W (.slice (some ⟨b1, o1, none⟩) (L.length - (k + 1)) (c1 - (k + 1))) (L.drop (k + 1))) := by
          rw [show L.drop (k + 1) = [] from List.drop_eq_nil_of_le (by omega)]
          refine ⟨_, c1 - (k + 1), by rw [show L.length - (k + 1) = 0 by omega]; rfl, by simp, by omega, fun j hj => by simp at hj⟩
        have hcet : (c1 = k + 1) = True := by simp [hce]
        clear hce
        have HWith : Hid (∀ X : World, Below W.heap.size W X → Calls Tryd.prog 27 #[.slice (some ⟨b1, o1, none⟩) k c1, .agg #[.string nk, .string V]] X fun e X' => ∃ v4, e = .returned v4 ∧ X'.ownsRow W.heap.size 38 2 v4 (k + 1) C4 ∧ Below W.heap.size W X') := fun X hX => by
          have := with_any _ _ nk V X ((hd_take HLW.out k (by omega)).kept hX) (by simp; omega)
          unfold hdVal at this
          refine this.mono ?_
          rintro e X' ⟨v4, rfl, ho, hb⟩
          rw [HC4.out, show (L.take k ++ [(⟨nk.data.toList, V.data.toList⟩ : Hd)]).length = k + 1 by simp; omega] at ho
          refine ⟨v4, rfl, ?_, hX.trans (hb.mono hX.size)⟩
          rcases ho.2 with ⟨h1, h2⟩ | ⟨g, cap, cur, e1, e2, e3⟩
          · simp at h2
          · exact ⟨ho.1, .inr ⟨g, cap, cur, e1, Nat.le_trans hX.size e2, e3⟩⟩
        have HDrop : Hid (∀ X : World, Below W.heap.size W X → Calls Tryd.prog 10 #[.slice (some ⟨b1, o1, none⟩) (L.length - (k + 1)) (c1 - (k + 1)), .string N] X fun e X' => ∃ g5 cap5, e = .returned (.slice (some ⟨g5, 0, none⟩) m5 cap5) ∧ (∀ j u, C5[j]? = some u → X'.cell? ((⟨g5, 0, none⟩ : Addr).add j) = some u) ∧ Below W.heap.size W X' ∧ Below X.heap.size X X') := fun X hX => by
          refine (drop_any _ (L.drop (k + 1)) N X (HTL.out.kept hX) hn (fun h hh => HZ.out h (List.mem_of_mem_drop hh)) (by simp; omega)).mono ?_
          rintro e X' ⟨v5, rfl, ho, hb, hnn⟩
          obtain ⟨g5, cap5, rfl, hcap5, hmax5⟩ := hnn.form ho
          have hc := (own_hd ho).cells.2
          rw [HC5.out] at hc
          rw [← HM5.out]
          exact ⟨g5, cap5, rfl, fun j u hj => by obtain ⟨x, e, h⟩ := hc j u hj; cases e; exact h, hX.trans (hb.mono hX.size), hb⟩
        go_region_held_law (fun wx => Below W.heap.size W wx ∧ wx.cell? ⟨w2.heap.size, 0, none⟩ = some (.string nk) ∧ wx.cell? ⟨w2.heap.size, 1, none⟩ = some (.string V))
          (first | exact HK.out _ hbD | exact HK.out _ (by assumption) | (go_split_ands; exact HK.out _ (by assumption)))
          (first
            | (go_at_call 27; refine (HWith.out _ (by (try dsimp only at *); go_split_ands; assumption)).mono ?_; rintro e w4 ⟨v4, rfl, ho4, hbW4⟩)
            | (go_at_call 10; refine (HDrop.out _ (by (try dsimp only at *); go_split_ands; assumption)).mono ?_; rintro e w5 ⟨g5, cap5, rfl, hcell5, hbW5, hb5⟩)
            | (refine xstep_append_own rfl (.tmp 41) (.tmp 47) 22 rfl W.heap.size 38 i0 _ 2 32 Tryd.underlying22 hi hz0 hz1 hz2 rfl (by decide) v4 (k + 1) C4 rfl (own_same ho4 hb5) ⟨g5, 0, none⟩ m5 cap5 C5 rfl HC5l.out hcell5 HC5o.out (by unfold maxLen; omega) (by omega) hbW5.size ?_; intro v6 w6 hown6 hgrow6 hnil6; have hbW6 : Below W.heap.size W w6 := hbW5.grown hgrow6 hbW5.size (fun g hg => (ho4.lt g hg).1)))
        all_goals
          (try dsimp only at *)
          go_wp2
          go_ret2
          refine ⟨HB4.out.trans (hbW6.mono HB4.out.size), .inr ⟨by rw [HE.out, ← HQ.out], v6, by simp, ?_⟩⟩
          rw [HV.out, HVe.out, cellsH_app, HC4.out, HC5.out, List.length_append, HM5.out, show (L.take k ++ [(⟨nk.data.toList, V.data.toList⟩ : Hd)]).length = k + 1 by simp; omega]
          rcases hown6.2 with ⟨h1, h2⟩ | ⟨g, cap, cur, e1, e2, e3⟩
          · omega
          · exact ⟨hown6.1, .inr ⟨g, cap, cur, e1, Nat.le_trans HB4.out.size e2, e3⟩⟩
      · have HTL := hid (hd_drop HLW.out (k + 1) (by omega))
        have HWith : Hid (∀ X : World, Below W.heap.size W X → Calls Tryd.prog 27 #[.slice (some ⟨b1, o1, none⟩) k c1, .agg #[.string nk, .string V]] X fun e X' => ∃ v4, e = .returned v4 ∧ X'.ownsRow W.heap.size 38 2 v4 (k + 1) C4 ∧ Below W.heap.size W X') := fun X hX => by
          have := with_any _ _ nk V X ((hd_take HLW.out k (by omega)).kept hX) (by simp; omega)
          unfold hdVal at this
          refine this.mono ?_
          rintro e X' ⟨v4, rfl, ho, hb⟩
          rw [HC4.out, show (L.take k ++ [(⟨nk.data.toList, V.data.toList⟩ : Hd)]).length = k + 1 by simp; omega] at ho
          refine ⟨v4, rfl, ?_, hX.trans (hb.mono hX.size)⟩
          rcases ho.2 with ⟨h1, h2⟩ | ⟨g, cap, cur, e1, e2, e3⟩
          · simp at h2
          · exact ⟨ho.1, .inr ⟨g, cap, cur, e1, Nat.le_trans hX.size e2, e3⟩⟩
        have HDrop : Hid (∀ X : World, Below W.heap.size W X → Calls Tryd.prog 10 #[.slice (some ⟨b1, o1 + (k + 1) * 2, none⟩) (L.length - (k + 1)) (c1 - (k + 1)), .string N] X fun e X' => ∃ g5 cap5, e = .returned (.slice (some ⟨g5, 0, none⟩) m5 cap5) ∧ (∀ j u, C5[j]? = some u → X'.cell? ((⟨g5, 0, none⟩ : Addr).add j) = some u) ∧ Below W.heap.size W X' ∧ Below X.heap.size X X') := fun X hX => by
          refine (drop_any _ (L.drop (k + 1)) N X (HTL.out.kept hX) hn (fun h hh => HZ.out h (List.mem_of_mem_drop hh)) (by simp; omega)).mono ?_
          rintro e X' ⟨v5, rfl, ho, hb, hnn⟩
          obtain ⟨g5, cap5, rfl, hcap5, hmax5⟩ := hnn.form ho
          have hc := (own_hd ho).cells.2
          rw [HC5.out] at hc
          rw [← HM5.out]
          exact ⟨g5, cap5, rfl, fun j u hj => by obtain ⟨x, e, h⟩ := hc j u hj; cases e; exact h, hX.trans (hb.mono hX.size), hb⟩
        go_region_held_law (fun wx => Below W.heap.size W wx ∧ wx.cell? ⟨w2.heap.size, 0, none⟩ = some (.string nk) ∧ wx.cell? ⟨w2.heap.size, 1, none⟩ = some (.string V))
          (first | exact HK.out _ hbD | exact HK.out _ (by assumption) | (go_split_ands; exact HK.out _ (by assumption)))
          (first
            | (go_at_call 27; refine (HWith.out _ (by (try dsimp only at *); go_split_ands; assumption)).mono ?_; rintro e w4 ⟨v4, rfl, ho4, hbW4⟩)
            | (go_at_call 10; refine (HDrop.out _ (by (try dsimp only at *); go_split_ands; assumption)).mono ?_; rintro e w5 ⟨g5, cap5, rfl, hcell5, hbW5, hb5⟩)
            | (refine xstep_append_own rfl (.tmp 41) (.tmp 47) 22 rfl W.heap.size 38 i0 _ 2 32 Tryd.underlying22 hi hz0 hz1 hz2 rfl (by decide) v4 (k + 1) C4 rfl (own_same ho4 hb5) ⟨g5, 0, none⟩ m5 cap5 C5 rfl HC5l.out hcell5 HC5o.out (by unfold maxLen; omega) (by omega) hbW5.size ?_; intro v6 w6 hown6 hgrow6 hnil6; have hbW6 : Below W.heap.size W w6 := hbW5.grown hgrow6 hbW5.size (fun g hg => (ho4.lt g hg).1)))
        all_goals
          (try dsimp only at *)
          go_wp2
          go_ret2
          refine ⟨HB4.out.trans (hbW6.mono HB4.out.size), .inr ⟨by rw [HE.out, ← HQ.out], v6, by simp, ?_⟩⟩
          rw [HV.out, HVe.out, cellsH_app, HC4.out, HC5.out, List.length_append, HM5.out, show (L.take k ++ [(⟨nk.data.toList, V.data.toList⟩ : Hd)]).length = k + 1 by simp; omega]
          rcases hown6.2 with ⟨h1, h2⟩ | ⟨g, cap, cur, e1, e2, e3⟩
          · omega
          · exact ⟨hown6.1, .inr ⟨g, cap, cur, e1, Nat.le_trans HB4.out.size e2, e3⟩⟩
    · clear hW3
      have hqz : q ≠ 0 := by omega
      have HE2 := hid (show setE L n.data.toList v.data.toList = q by rw [HE.out, ← HQ.out])
      rcases hk3 with rfl | rfl
      · go_wp2
        go_ret2
        refine ⟨HB3.out, .inl ⟨by rw [HE2.out]; decide, by rw [HE2.out]; rfl⟩⟩
      · go_wp2
        go_ret2
        refine ⟨HB3.out, .inl ⟨by rw [HE2.out]; decide, by rw [HE2.out]; rfl⟩⟩

end Go.Proofs.YtplabofdcnpcpaaDoor

namespace Go.Proofs.YtplabofdcnpcpaaDoor
open Go.RowKit

theorem hd_ext {a b : Hd} (h1 : a.name = b.name) (h2 : a.value = b.value) : a = b := by cases a; cases b; simp at h1 h2; simp [h1, h2]

set_option maxHeartbeats 2000000 in
theorem sameH_any (v1 v2 : Value) (L1 L2 : List Hd) (w : World) (h1 : HdAt w v1 L1) (h2 : HdAt w v2 L2) (hl1 : L1.length ≤ 1000000) (hl2 : L2.length ≤ 1000000) :
    Calls Tryd.prog 32 #[v1, v2] w fun e w' => e = .returned (.bool (decide (L1 = L2))) ∧ Below w.heap.size w w' := by
  obtain ⟨a1, c1, rfl, hc1, hm1, hv1⟩ := h1.view
  obtain ⟨a2, c2, rfl, hc2, hm2, hv2⟩ := h2.view
  have V1 := hid hv1
  have V2 := hid hv2
  clear h1 h2 hv1 hv2
  by_cases hl : L1.length = L2.length
  · have hl' : ((L1.length : Int) == (L2.length : Int)) = true := by rw [beq_iff_eq]; omega
    go_enter Tryd.func32, Tryd.ntmps32
    go_wp2
    go_loopw [5] (fun i wr => ∃ k : Nat, k ≤ L1.length ∧ i = .int .i64 k ∧ (∀ j (h1 : j < L1.length) (h2 : j < L2.length), j < k → L1[j] = L2[j]) ∧ Below w.heap.size w wr) (fun i _ => L1.length - (intOf i).toNat)
    case atStart => exact ⟨0, Nat.zero_le _, rfl, fun j _ _ h => absurd h (by omega), Below.refl _ _⟩
    case round =>
      obtain ⟨k, hk, rfl, hall, hb⟩ := hrel
      have HA := hid hall
      clear hall
      by_cases hlt : k < L1.length
      · have hlt' : (k : Int) < (L1.length : Int) := by omega
        have hlt2' : (k : Int) < (L2.length : Int) := by omega
        obtain ⟨b1, o1, rfl, e1, e1'⟩ := V1.out k hlt
        obtain ⟨b2, o2, rfl, e2, e2'⟩ := V2.out k (by omega)
        have f1 : wr.cell? ⟨b1, o1 + k * 2, none⟩ = some (.string ⟨L1[k].name.toArray⟩) := (hb.cell (World.block_lt_of_cell? w _ e1)).trans e1
        have f1' : wr.cell? ⟨b1, o1 + k * 2 + 1, none⟩ = some (.string ⟨L1[k].value.toArray⟩) := (hb.cell (World.block_lt_of_cell? w _ e1')).trans e1'
        have f2 : wr.cell? ⟨b2, o2 + k * 2, none⟩ = some (.string ⟨(L2[k]'(by omega)).name.toArray⟩) := (hb.cell (World.block_lt_of_cell? w _ e2)).trans e2
        have f2' : wr.cell? ⟨b2, o2 + k * 2 + 1, none⟩ = some (.string ⟨(L2[k]'(by omega)).value.toArray⟩) := (hb.cell (World.block_lt_of_cell? w _ e2')).trans e2'
        clear e1 e2 e1' e2'
        obtain ⟨x, hx⟩ : ∃ x, x = L1[k].name := ⟨_, rfl⟩
        obtain ⟨x', hx'⟩ : ∃ x, x = L1[k].value := ⟨_, rfl⟩
        obtain ⟨y, hy⟩ : ∃ y, y = (L2[k]'(by omega)).name := ⟨_, rfl⟩
        obtain ⟨y', hy'⟩ : ∃ y, y = (L2[k]'(by omega)).value := ⟨_, rfl⟩
        rw [← hx] at f1
        rw [← hx'] at f1'
        rw [← hy] at f2
        rw [← hy'] at f2'
        have HX := hid hx
        have HY := hid hy
        have HX' := hid hx'
        have HY' := hid hy'
        clear hx hy hx' hy'
        by_cases hxy : x = y ∧ x' = y'
        · obtain ⟨rfl, rfl⟩ := hxy
          go_wp2
          go_quiet (fail)
          go_wp2
          go_roundw
          case rel =>
            refine ⟨k + 1, by omega, by go_num, fun j h1 h2 hj => ?_, Go.below_drewN hb _⟩
            by_cases he : j = k
            · subst he; exact hd_ext (by rw [← HX.out, ← HY.out]) (by rw [← HX'.out, ← HY'.out])
            · exact HA.out j h1 h2 (by omega)
          case measure => simp [intOf]; omega
        · have HN := hid (show ¬ L1 = L2 from fun e => hxy ⟨by rw [HX.out, HY.out]; subst e; rfl, by rw [HX'.out, HY'.out]; subst e; rfl⟩)
          by_cases hx1 : x = y
          · subst hx1
            have hne : (x' == y') = false := by
              rw [beq_eq_false_iff_ne]
              exact fun e => hxy ⟨rfl, e⟩
            clear hxy
            go_wp2
            go_quiet (fail)
            go_wp2
            go_ret
            exact ⟨ret_bool (by simp [HN.out]), Go.below_drewN hb _⟩
          · have hne : (x == y) = false := by
              rw [beq_eq_false_iff_ne]
              exact hx1
            clear hxy hx1
            go_wp2
            go_quiet (fail)
            go_wp2
            go_ret
            exact ⟨ret_bool (by simp [HN.out]), Go.below_drewN hb _⟩
      · have HE := hid (show L1 = L2 from list_eq_of hl fun j h1 h2 => HA.out j h1 h2 (by omega))
        go_wp2
        go_ret
        exact ⟨ret_bool (by simp [HE.out]), hb⟩
  · have hl' : ((L1.length : Int) == (L2.length : Int)) = false := by rw [beq_eq_false_iff_ne]; omega
    have HN := hid (show ¬ L1 = L2 from fun e => hl (by rw [e]))
    go_enter Tryd.func32, Tryd.ntmps32
    go_wp2
    go_ret
    exact ⟨ret_bool (by simp [HN.out]), Below.refl _ _⟩

def forbL : List (List UInt8) := [[104, 111, 115, 116], [99, 111, 111, 107, 105, 101], [111, 114, 105, 103, 105, 110], [114, 101, 102, 101, 114, 101, 114], [99, 111, 110, 116, 101, 110, 116, 45, 108, 101, 110, 103, 116, 104], [99, 111, 110, 110, 101, 99, 116, 105, 111, 110], [100, 97, 116, 101], [118, 105, 97], [116, 101], [117, 112, 103, 114, 97, 100, 101], [101, 120, 112, 101, 99, 116], [100, 110, 116], [97, 99, 99, 101, 112, 116, 45, 99, 104, 97, 114, 115, 101, 116], [97, 99, 99, 101, 112, 116, 45, 101, 110, 99, 111, 100, 105, 110, 103], [97, 99, 99, 101, 115, 115, 45, 99, 111, 110, 116, 114, 111, 108, 45, 114, 101, 113, 117, 101, 115, 116, 45, 104, 101, 97, 100, 101, 114, 115], [97, 99, 99, 101, 115, 115, 45, 99, 111, 110, 116, 114, 111, 108, 45, 114, 101, 113, 117, 101, 115, 116, 45, 109, 101, 116, 104, 111, 100], [107, 101, 101, 112, 45, 97, 108, 105, 118, 101], [116, 114, 97, 105, 108, 101, 114], [116, 114, 97, 110, 115, 102, 101, 114, 45, 101, 110, 99, 111, 100, 105, 110, 103]]
/-- What a page may not set. -/
def forbV (n : List UInt8) : Bool := forbL.contains (low n) || (Lib.hasPrefix (low n) [112, 114, 111, 120, 121, 45] || Lib.hasPrefix (low n) [115, 101, 99, 45])

theorem low_size (n : ByteArray) : (low n.data.toList).length = n.size := by rw [low_len]; simp

/-- Block g holds the bytes l, and nothing else. -/
def RowZ (w : World) (g : Nat) (l : List UInt8) : Prop := w.heap[g]? = some (.cells (l.map fun c => Value.int .u8 (c.toNat : Int)).toArray 5 (0, 0))

theorem RowZ.cell {w : World} {g : Nat} {l : List UInt8} (h : RowZ w g l) (j : Nat) (hj : j < l.length) : w.cell? ⟨g, j, none⟩ = some (.int .u8 (l[j].toNat : Int)) := by
  rw [Lib.cell_of_heap h]; simp [hj]

theorem RowZ.set {w : World} {g : Nat} {l : List UInt8} (h : RowZ w g l) (j : Nat) (c : UInt8) : RowZ (w.setCell ⟨g, j, none⟩ (.int .u8 (c.toNat : Int))) g (l.set j c) := by
  have := Lib.heap_setCell_same h (i := j) (.int .u8 (c.toNat : Int))
  unfold RowZ
  rw [this]
  simp [List.map_set]

theorem RowZ.string {w : World} {g cap : Nat} {l : List UInt8} (h : RowZ w g l) : (convert 83 9 (.slice (some ⟨g, 0, none⟩) l.length cap)).run Tryd.prog w = .ok (.string ⟨l.toArray⟩) w := by
  refine run_convert_bytes_back w 83 9 5 ⟨g, 0, none⟩ cap l Tryd.underlying83 Tryd.underlying5 Tryd.underlying9 fun j hj => ?_
  have := h.cell j hj
  rw [Addr.add_lit]
  simpa using this

def lonL (n k : Nat) : List UInt8 := List.replicate k 97 ++ List.replicate (n - k) 0

theorem lonL_len (n k : Nat) (h : k ≤ n) : (lonL n k).length = n := by simp [lonL]; omega

theorem lonL_set (n k : Nat) (h : k < n) : (lonL n k).set k 97 = lonL n (k + 1) := by
  unfold lonL
  rw [List.set_append, if_neg (by simp), List.length_replicate, Nat.sub_self, show n - k = (n - (k + 1)) + 1 by omega, List.replicate_succ, List.set_cons_zero]
  rw [List.replicate_succ']
  simp

theorem infoU8 : (Tryd.prog.info? 5).map (fun i => (i.zero, i.size, i.bytes)) = some (some (.int .u8 0), 1, 1) := by kernel_rfl

/-- So many letters. -/
def lonV (n : Nat) : List UInt8 := List.replicate n 97

end Go.Proofs.YtplabofdcnpcpaaDoor

namespace Go.Proofs.YtplabofdcnpcpaaDoor
open Go.RowKit

set_option maxHeartbeats 400000 in
theorem xfew_any (s : ByteArray) (n : Nat) (w : World) (hn : n ≤ 1000000) (hs : s.size ≤ 9223372036854775807) :
    Calls Tryd.prog 19 #[.string s, .int .i64 n] w fun e w' => e = .returned (.string ⟨(s.data.toList.take n).toArray⟩) ∧ w = w' := by
  by_cases h : n < s.size
  · have h' : (n : Int) < (s.size : Int) := by omega
    have HE := hid (show s.extract 0 n = ⟨(s.data.toList.take n).toArray⟩ from xext (by rw [Lib.extract_data]; simp))
    go_enter Tryd.func19, Tryd.ntmps19
    go_wp2
    go_ret
    rw [← HE.out]
    exact ⟨rfl, rfl⟩
  · have h' : ¬ ((n : Int) < (s.size : Int)) := by omega
    have HE := hid (show s = ⟨(s.data.toList.take n).toArray⟩ from xext (by rw [List.take_of_length_le (by simp; omega)]))
    go_enter Tryd.func19, Tryd.ntmps19
    go_wp2
    go_ret
    rw [← HE.out]
    exact ⟨rfl, rfl⟩

def xwithinI (n lo hi : Int) : Int :=
  let r := n.tmod (hi - lo + 1)
  if r < 0 then lo + (r + hi - lo + 1) else lo + r

theorem xwithin_mod (n m : Int) (hm : 0 < m) : -m < n.tmod m ∧ n.tmod m < m := by
  refine ⟨?_, Int.tmod_lt_of_pos n hm⟩
  have h1 := Int.tmod_lt_of_pos (-n) hm
  rw [Int.neg_tmod] at h1
  omega

theorem xwithinI_bounds (n lo hi : Int) (h : lo ≤ hi) : lo ≤ xwithinI n lo hi ∧ xwithinI n lo hi ≤ hi := by
  have hb := xwithin_mod n (hi - lo + 1) (by omega)
  unfold xwithinI
  simp only
  split <;> omega

end Go.Proofs.YtplabofdcnpcpaaDoor

namespace Go.Proofs.YtplabofdcnpcpaaDoor
open Go.RowKit

def fewHd (m : Nat) (h : Hd) : Hd := ⟨h.name.take m, h.value.take m⟩
/-- The first n headers, each text cut at m bytes. -/
def fewH (L : List Hd) (n m : Nat) : List Hd := (L.take n).map (fewHd m)

theorem fewH_len (L : List Hd) (n m : Nat) : (fewH L n m).length ≤ n := by simp [fewH]; omega

theorem fewH_szd (L : List Hd) (n m : Nat) : Szd m (fewH L n m) := fun h hh => by
  unfold fewH at hh
  obtain ⟨a, _, rfl⟩ := List.mem_map.1 hh
  simp [fewHd]; omega

theorem Szd.mono {a b : Nat} {L : List Hd} (h : Szd a L) (hab : a ≤ b) : Szd b L := fun x hx => ⟨Nat.le_trans (h x hx).1 hab, Nat.le_trans (h x hx).2 hab⟩

theorem Szd.bulk {a : Nat} {L : List Hd} (h : Szd a L) : bulkV L ≤ (a + 2) * L.length := by
  unfold bulkV
  induction L with
  | nil => simp
  | cons x L ih =>
    have h1 := (h x (by simp)).2
    have := ih (fun y hy => h y (by simp [hy]))
    simp only [List.map_cons, List.sum_cons, List.length_cons]
    rw [Nat.mul_add]
    omega

set_option maxHeartbeats 2000000 in
set_option maxRecDepth 100000 in
theorem fewHeaders_any (v : Value) (L : List Hd) (n m : Nat) (w : World) (h : HdAt w v L) (hz : Szd maxLen L) (hn : n ≤ 1000) (hm : m ≤ 1000) :
    Calls Tryd.prog 5 #[v, .int .i64 n, .int .i64 m] w (HdPost (fewH L n m) w) := by
  obtain ⟨i0, hi, hz0, hz1, hz2⟩ := info3 infoHd
  obtain ⟨a1, c1, rfl, hc1, hm1, hv1⟩ := h.view
  have V1 := hid hv1
  have HZ := hid hz
  clear h hv1 hz
  go_enter Tryd.func5, Tryd.ntmps5
  go_wp2
  go_loopw [7, 8] (fun vv i wr => ∃ k : Nat, k ≤ L.length ∧ k ≤ n ∧ i = .int .i64 k ∧ wr.ownsRow w.heap.size 38 2 vv k (cellsH (fewH L k m)) ∧ Below w.heap.size w wr)
    (fun _ i _ => L.length - (intOf i).toNat)
  case atStart => exact ⟨0, Nat.zero_le _, Nat.zero_le _, rfl, World.ownsRow_nil _ _ _ _, Below.refl _ _⟩
  case round =>
    obtain ⟨k, hk, hkn, rfl, hown, hbw⟩ := hrel
    have HO := hid hown
    have hwr := hbw.size
    clear hown
    by_cases hlt : k < L.length
    · have hlt' : (k : Int) < (L.length : Int) := by omega
      by_cases hltn : k < n
      · have hltn' : (k : Int) < (n : Int) := by omega
        obtain ⟨b1, o1, rfl, e1, e2⟩ := V1.out k hlt
        have f1 : wr.cell? ⟨b1, o1 + k * 2, none⟩ = some (.string ⟨L[k].name.toArray⟩) := (hbw.cell (World.block_lt_of_cell? w _ e1)).trans e1
        have f2 : wr.cell? ⟨b1, o1 + k * 2 + 1, none⟩ = some (.string ⟨L[k].value.toArray⟩) := (hbw.cell (World.block_lt_of_cell? w _ e2)).trans e2
        obtain ⟨nm, hnm⟩ : ∃ x : ByteArray, x = ⟨L[k].name.toArray⟩ := ⟨_, rfl⟩
        obtain ⟨vl, hvl⟩ : ∃ x : ByteArray, x = ⟨L[k].value.toArray⟩ := ⟨_, rfl⟩
        rw [← hnm] at f1 e1
        rw [← hvl] at f2 e2
        have hs1 : nm.size ≤ 9223372036854775807 := by rw [hnm, xsize]; exact (HZ.out _ (List.getElem_mem hlt)).1
        have hs2 : vl.size ≤ 9223372036854775807 := by rw [hvl, xsize]; exact (HZ.out _ (List.getElem_mem hlt)).2
        obtain ⟨nm', hnm'⟩ : ∃ x : ByteArray, x = ⟨(nm.data.toList.take m).toArray⟩ := ⟨_, rfl⟩
        obtain ⟨vl', hvl'⟩ : ∃ x : ByteArray, x = ⟨(vl.data.toList.take m).toArray⟩ := ⟨_, rfl⟩
        have HF1 := hid hnm'
        have HF2 := hid hvl'
        have HS := hid (show cellsH (fewH L (k + 1) m) = cellsH (fewH L k m) ++ [.string nm', .string vl'] by
          unfold fewH
          rw [List.take_add_one, List.getElem?_eq_getElem hlt, List.map_append, cellsH_app]
          congr 1
          rw [hnm', hvl', hnm, hvl]; rfl)
        have hblk2 : b1 < w.heap.size := World.block_lt_of_cell? w _ e1
        have HK := hid (fun (X : World) (hX : Below w.heap.size w X) => (⟨hX, (hX.cell hblk2).trans e1, (hX.cell hblk2).trans e2⟩ : Below w.heap.size w X ∧ X.cell? ⟨b1, o1 + k * 2, none⟩ = some (.string nm) ∧ X.cell? ⟨b1, o1 + k * 2 + 1, none⟩ = some (.string vl)))
        have hbD : Below w.heap.size w wr.drew := hbw.drew
        clear e1 e2 hblk2
        clear hnm hvl hnm' hvl'
        go_wp2
        go_region_held_law (fun wx => Below w.heap.size w wx ∧ wx.cell? ⟨b1, o1 + k * 2, none⟩ = some (.string nm) ∧ wx.cell? ⟨b1, o1 + k * 2 + 1, none⟩ = some (.string vl))
          (first | exact HK.out _ hbD | exact HK.out _ (by assumption) | (go_split_ands; exact HK.out _ (by assumption)) | (go_split_ands; exact HK.out _ (belowA (by assumption) _)))
          (first
            | (go_at_call 19; refine (xfew_any _ m _ (by omega) (by assumption)).mono ?_; rintro e w' ⟨rfl, rfl⟩; first | rw [← HF1.out] | rw [← HF2.out])
            | (refine xstep_append_own rfl (.tmp 20) (.tmp 36) 22 rfl w.heap.size 38 i0 _ 2 32 Tryd.underlying22 hi hz0 hz1 hz2 rfl (by decide) u7 k (cellsH (fewH L k m)) rfl (by exact HO.out.alloc _) ⟨wr.heap.size, 0, none⟩ 1 1 [.string nm', .string vl'] rfl rfl (by intro j u hj; match j, hj with | 0, hj => (simp at hj; subst hj; simp [Addr.add]) | 1, hj => (simp at hj; subst hj; simp [Addr.add])) (by intro u hu; simp at hu; rcases hu with rfl | rfl <;> rfl) (by unfold maxLen; omega) (by omega) (by simp; omega) ?_; intro v6 w6 hown6 hgrow6 hnil6; have hbW6 : Below w.heap.size w w6 := (belowA hbD _).grown hgrow6 (by simp; omega) (fun g hg => (HO.out.lt g hg).1)))
        all_goals
          (try dsimp only at *)
          go_wp2
          go_roundw
          case rel =>
            refine ⟨k + 1, by omega, by omega, by go_num, ?_, hbW6⟩
            rw [HS.out]
            first | exact hown6 | simpa using hown6
          case measure => simp [intOf]; omega
      · have hltn' : decide ((k : Int) < (n : Int)) = false := by rw [decide_eq_false_iff_not]; omega
        have hke : k = n := by omega
        subst hke
        have hlen : (fewH L k m).length = k := by simp [fewH]; omega
        have HR := hid (show wr.ownsRow w.heap.size 38 2 u7 (fewH L k m).length (cellsH (fewH L k m)) by rw [hlen]; exact HO.out)
        clear hlen
        go_wp2
        go_ret
        exact ⟨_, rfl, HR.out, hbw⟩
    · have hke : k = L.length := by omega
      subst hke
      have hlt' : decide ((L.length : Int) < (L.length : Int)) = false := by rw [decide_eq_false_iff_not]; omega
      have hef : fewH L L.length m = fewH L n m := by
        unfold fewH
        rw [List.take_length, List.take_of_length_le hkn]
      have hlen : (fewH L n m).length = L.length := by rw [← hef]; simp [fewH]
      have HR := hid (show wr.ownsRow w.heap.size 38 2 u7 (fewH L n m).length (cellsH (fewH L n m)) by rw [hlen, ← hef]; exact HO.out)
      clear hlen hef
      go_wp2
      go_ret
      exact ⟨_, rfl, HR.out, hbw⟩

end Go.Proofs.YtplabofdcnpcpaaDoor
