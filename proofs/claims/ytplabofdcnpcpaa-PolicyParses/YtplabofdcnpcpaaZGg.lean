/-
  A copy of a list of headers into new memory; the walk of headers' with.
  The walks of strings.IndexAny and ContainsAny at the bytes 0, 10 and 13, over any bytes.
  The walks of strings.IndexAny at the bytes 0, 10 and 13 over long texts, of ContainsAny, and of headers' Value.
  The walks of headers' header and Add.
  The walks of headers' Drop and first.
  The walk of headers' Set.
  The walks of ostiarybook.Same over headers, of headers' Forbidden, and of ostiarylaw5.long.
  The walks of ostiarykeep.Few and ostiarybook.Within.
  The walk of ostiarykeep.FewHeaders.
-/
import Derived.Test.YtplabofdcnpcpaaZGf
import Derived.Test.YtplabofdcnpcpaaZGe
import Derived.Test.YtplabofdcnpcpaaZGd
import Derived.Laws.CopyOwn
import Derived.Laws.MakeOwn
import Derived.Laws.RangeAny
import Derived.Lib.DecodeN
import Derived.Lib.OthersKept
import Derived.Deep.LoopGhost
import Derived.RegionTactic
import Derived.Deep.RegionWith
import Derived.Deep.QuietTactic
import Derived.BigQuiet
import Derived.Laws.Runes
import Derived.Deep.WholeRow
import Derived.Deep.RegionLaw
import Derived.Deep.RegionHeldLaw
set_option linter.unusedSimpArgs false
set_option linter.unusedVariables false
namespace Go.Proofs.Ytplabofdcnpcpaa
open Go.RowKit

section
variable {P : Program}

/-- A copy of n elements of two cells each to the head of a block. -/
theorem run_copy_two (w : World) (dT sT ty elem : TypeId) (g n dCap : Nat) (a : Option Addr) (sCap : Nat) (cur : Array Value) (t : TypeId) (cs : List Value)
    (hu : P.underlying dT = some (.slice elem)) (hs : (P.info? elem).map (·.size) = some 2)
    (hg : w.heap[g]? = some (.cells cur t (0, 0))) (hn : cs.length = n * 2)
    (hsrc : ∀ j v, cs[j]? = some v → ∃ ad, a = some ad ∧ w.cell? (ad.add j) = some v) (hfit : cs.length ≤ cur.size) (h1 : ∀ v ∈ cs, v.oneCell' = true) :
    (Builtin.copy_ #[dT, sT] ty #[.slice (some ⟨g, 0, none⟩) n dCap, .slice a n sCap]).run P w =
      .ok (goInt n) (w.setRow g (cs ++ cur.toList.drop cs.length).toArray) := by
  have hst := run_storeCells_at P g 0 t cs 0 cur w hg (by simpa using hfit) h1
  simp only [Nat.add_zero, Nat.zero_add, List.take_zero, List.nil_append] at hst
  cases hq : P.info? elem with
  | none => simp [hq] at hs
  | some i =>
    have hi : i.size = 2 := by simpa [hq] using hs
    by_cases h0 : n = 0
    · subst h0
      have : cs = [] := List.eq_nil_of_length_eq_zero (by simpa using hn)
      subst this
      have hl : ∀ (x : Addr), (loadCells x 0).run P w = .ok #[] w := fun x => by simpa using run_loadCells_list (P := P) w x [] (by simp)
      have hsr : w.setRow g cur = w := setRow_self w g cur t (0, 0) hg
      cases a <;> simp [Builtin.copy_, run_underlying hu, Builtin.lenOf, Builtin.firstCells, sizeOf, typeInfo, hq, storeCells, hl, hsr]
    · have hpos : 0 < cs.length := by omega
      obtain ⟨ad, rfl, _⟩ := hsrc 0 cs[0] (by rw [List.getElem?_eq_getElem hpos])
      have hl := run_loadCells_list (P := P) w ad cs (fun j v hv => by obtain ⟨ad', e, h⟩ := hsrc j v hv; cases e; exact h)
      rw [hn] at hl
      simp [Builtin.copy_, run_underlying hu, Builtin.lenOf, Builtin.firstCells, sizeOf, typeInfo, hq, hi, hl, hst]

theorem wpList_copy_two {w : World} {ops : Array Oper} {rest : List Oper} {o : Oper} {a : Act} {Q : Exit → Act → World → Prop} (hgd : o.guard = none) (d s : Operand) (dT sT : TypeId)
    (ho : o.op = .call { callee := .builtin .copy, args := #[d, s], argTypes := #[dT, sT] }) (elem : TypeId) (hu : P.underlying dT = some (.slice elem)) (hsz : (P.info? elem).map (·.size) = some 2)
    (g n dCap : Nat) (ad : Option Addr) (sCap : Nat) (hd : a.eval d = .slice (some ⟨g, 0, none⟩) n dCap) (hs : a.eval s = .slice ad n sCap)
    (cur : Array Value) (t : TypeId) (hg : w.heap[g]? = some (.cells cur t (0, 0))) (cs : List Value) (hn : cs.length = n * 2)
    (hsrc : ∀ j v, cs[j]? = some v → ∃ x, ad = some x ∧ w.cell? (x.add j) = some v) (hfit : cs.length ≤ cur.size) (h1 : ∀ v ∈ cs, v.oneCell' = true)
    (h : wpList P ops Q rest (a.put o.dst (goInt n)) (w.setRow g (cs ++ cur.toList.drop cs.length).toArray)) : wpList P ops Q (o :: rest) a w := by
  refine wpList_plain hgd fun K hK => ?_
  have hrun := run_copy_two (P := P) w dT sT o.type elem g n dCap ad sCap cur t cs hu hsz hg hn hsrc hfit h1
  unfold Oper.wp
  simp [execOp, ho, resolve, invoke, builtin, hd, hs, hrun, Result.andThen]
  exact hK _ _ h

end

theorem cellsH_cell (L : List Hd) (j : Nat) (u : Value) (h : (cellsH L)[j]? = some u) : ∃ k, ∃ hk : k < L.length, (j = k * 2 ∧ u = .string ⟨L[k].name.toArray⟩) ∨ (j = k * 2 + 1 ∧ u = .string ⟨L[k].value.toArray⟩) := by
  have hj : j < L.length * 2 := by
    rw [← cellsH_len]
    exact (List.getElem?_eq_some_iff.1 h).1
  refine ⟨j / 2, by omega, ?_⟩
  have h2 := cellsH_at L (j / 2) (by omega)
  rcases (show j = j / 2 * 2 ∨ j = j / 2 * 2 + 1 by omega) with e | e
  · left
    refine ⟨e, ?_⟩
    rw [e, h2.1] at h
    exact (Option.some.inj h).symm
  · right
    refine ⟨e, ?_⟩
    rw [e, h2.2] at h
    exact (Option.some.inj h).symm

theorem cellsH_oneCell (L : List Hd) : ∀ u ∈ cellsH L, u.oneCell' = true := fun u hu => by
  obtain ⟨j, hj⟩ := List.getElem?_of_mem hu
  obtain ⟨k, hk, ⟨_, rfl⟩ | ⟨_, rfl⟩⟩ := cellsH_cell L j u hj <;> rfl

theorem add_of (b off j : Nat) : (⟨b, off, none⟩ : Addr).add j = ⟨b, off + j, none⟩ := by unfold Addr.add; split <;> simp_all

/-- The cells of a list of headers, one by one. -/
theorem HdAt.cells {w : World} {a : Option Addr} {n cap : Nat} {L : List Hd} (h : HdAt w (.slice a n cap) L) : n = L.length ∧ ∀ j u, (cellsH L)[j]? = some u → ∃ x, a = some x ∧ w.cell? (x.add j) = some u := by
  obtain ⟨a', cap', e, _, _, hc⟩ := h
  cases e
  refine ⟨rfl, fun j u hu => ?_⟩
  obtain ⟨k, hk, h⟩ := cellsH_cell L j u hu
  obtain ⟨b, off, rfl, c1, c2⟩ := hc k hk
  refine ⟨_, rfl, ?_⟩
  rw [add_of]
  rcases h with ⟨rfl, rfl⟩ | ⟨rfl, rfl⟩
  · exact c1
  · rw [← Nat.add_assoc]; exact c2

/-- A list of headers of the call's own, as it is answered. -/
def HdPost (L : List Hd) (w : World) (e : Ending) (w' : World) : Prop := ∃ v, e = .returned v ∧ w'.ownsRow w.heap.size 29 2 v L.length (cellsH L) ∧ Below w.heap.size w w'

end Go.Proofs.Ytplabofdcnpcpaa

namespace Go.Proofs.Ytplabofdcnpcpaa
open Go.RowKit

theorem xget_bang (s : ByteArray) (i : Nat) (h : i < s.size) : s.get! i = s[i] := by
  show s.data[i]! = s.data[i]
  exact getElem!_pos s.data i h

set_option maxRecDepth 100000 in
theorem xdecode_skip (s : ByteArray) (i : Nat) (h : i < s.size) (ha : 128 ≤ (s[i]'h).toNat) : ∃ r n, Utf8.decode s i = (r, n) ∧ 128 ≤ r ∧ r ≤ 1114111 ∧ 1 ≤ n ∧ i + n ≤ s.size ∧ ∀ j, i ≤ j → j < i + n → 128 ≤ (s.get! j).toNat := by
  have h0 : 128 ≤ (s.get! i).toNat := by rw [xget_bang s i h]; exact ha
  rw [Lib.decode_at]
  unfold Lib.decodeN
  rw [if_neg (by omega)]
  have one : ∀ j, i ≤ j → j < i + 1 → 128 ≤ (s.get! j).toNat := fun j h1 h2 => by
    have : j = i := by omega
    rw [this]; exact h0
  split
  · split
    · refine ⟨_, _, rfl, by omega, by omega, by omega, by omega, fun j h1 h2 => ?_⟩
      have : j = i ∨ j = i + 1 := by omega
      rcases this with rfl | rfl
      · exact h0
      · omega
    · exact ⟨_, _, rfl, by omega, by omega, by omega, by omega, one⟩
  · split
    · split
      · refine ⟨_, _, rfl, by omega, by omega, by omega, by omega, fun j h1 h2 => ?_⟩
        have : j = i ∨ j = i + 1 ∨ j = i + 2 := by omega
        rcases this with rfl | rfl | rfl
        · exact h0
        · omega
        · omega
      · exact ⟨_, _, rfl, by omega, by omega, by omega, by omega, one⟩
    · split
      · split
        · refine ⟨_, _, rfl, by omega, by omega, by omega, by omega, fun j h1 h2 => ?_⟩
          have : j = i ∨ j = i + 1 ∨ j = i + 2 ∨ j = i + 3 := by omega
          rcases this with rfl | rfl | rfl | rfl
          · exact h0
          · omega
          · omega
          · omega
        · exact ⟨_, _, rfl, by omega, by omega, by omega, by omega, one⟩
      · exact ⟨_, _, rfl, by omega, by omega, by omega, by omega, one⟩

theorem xnoAny_skip (s : ByteArray) (i n : Nat) (h : Lib.NoAny s.data.toList [0, 10, 13] i) (hn : i + n ≤ s.size) (hj : ∀ j, i ≤ j → j < i + n → 128 ≤ (s.get! j).toNat) : Lib.NoAny s.data.toList [0, 10, 13] (i + n) := by
  intro j b hjn hb
  by_cases h1 : j < i
  · exact h j b h1 hb
  · have h2 := hj j (by omega) hjn
    have hjs : j < s.size := by omega
    rw [xget_bang s j hjs] at h2
    rw [Lib.data_getElem? s j hjs] at hb
    cases hb
    simp
    refine ⟨?_, ?_, ?_⟩ <;> (intro e; rw [e] at h2; revert h2; decide)

theorem xbelow_iter (w : World) (s : ByteArray) (i : Nat) : Below w.heap.size w (w.iter s i) := (Below.refl _ w).alloc (Nat.le_refl _) _

set_option maxHeartbeats 2000000 in
set_option maxRecDepth 100000 in
theorem xindexRune_high (r : Int) (w : World) (hr1 : 128 ≤ r) (h2 : r ≤ 1114111) :
    Calls Try.prog 61 #[.string ⟨#[0, 10, 13]⟩, .int .i32 r] w fun e w' => e = .returned (.int .i64 (-1)) ∧ Below w.heap.size w w' := by
  have hr0 : (0 : Int) ≤ r := by omega
  by_cases he : r = 65533
  · subst he
    go_enter Try.func61, Try.ntmps61
    go_wp2
    go_loopg [5, 6] 3 (fun g _ _ wx => ∃ i : Nat, i + g = 3 ∧ wx = w.iter ⟨#[0, 10, 13]⟩ i)
    case atStart => exact ⟨0, by omega, rfl⟩
    case round =>
      obtain ⟨i, hig, rfl⟩ := hrel
      match gk, hig with
      | 0, hig =>
        obtain rfl : i = 3 := by omega
        have hnx := run_next_end (P := Try.prog) w ⟨#[0, 10, 13]⟩ 3
        go_wp2
        go_ret
        exact ⟨rfl, xbelow_iter w _ _⟩
      | 1, hig =>
        obtain rfl : i = 2 := by omega
        have hnx := fun ty => run_next_ascii (P := Try.prog) w ⟨#[0, 10, 13]⟩ 2 ty (by decide) (by decide)
        go_wp2
        go_roundg 0
        case measure => omega
        case rel => exact ⟨3, by omega, rfl⟩
      | 2, hig =>
        obtain rfl : i = 1 := by omega
        have hnx := fun ty => run_next_ascii (P := Try.prog) w ⟨#[0, 10, 13]⟩ 1 ty (by decide) (by decide)
        go_wp2
        go_roundg 1
        case measure => omega
        case rel => exact ⟨2, by omega, rfl⟩
      | 3, hig =>
        obtain rfl : i = 0 := by omega
        have hnx := fun ty => run_next_ascii (P := Try.prog) w ⟨#[0, 10, 13]⟩ 0 ty (by decide) (by decide)
        go_wp2
        go_roundg 2
        case measure => omega
        case rel => exact ⟨1, by omega, rfl⟩
      | g + 4, hig => omega
  · have he' : (r == 65533) = false := by rw [beq_eq_false_iff_ne]; exact he
    have hcv : ∀ w : World, Calls Try.prog 66 #[.int .i32 r] w fun e w' => e = .returned (.bool (Lib.validRune r)) ∧ w' = w := fun w => Try.utf8_ValidRune _ w
    have hvv : Lib.validRune r = true ∨ Lib.validRune r = false := by cases Lib.validRune r <;> simp
    rcases hvv with hv | hv
    rotate_left
    · rw [hv] at hcv
      clear hv h2 he
      go_enter Try.func61, Try.ntmps61
      go_wp2_with (go_at_call 66; refine (hcv _).mono ?_; rintro e w' ⟨rfl, rfl⟩)
      go_ret
      exact ⟨rfl, Below.refl _ _⟩
    · obtain ⟨X, hX⟩ : ∃ X, Utf8.encode r = X := ⟨_, rfl⟩
      have hvu : Utf8.valid r = true := by
        have := of_decide_eq_true hv
        simp only [Utf8.valid, Bool.or_eq_true, Bool.and_eq_true, decide_eq_true_eq]
        omega
      have hf := encode_facts r hvu (by omega)
      rw [hX] at hf
      obtain ⟨f1, f2, f3⟩ := hf
      have HF := hid f3
      rw [hv] at hcv
      clear f3 hv hvu h2 he
      by_cases hx : X.size = 2
      · obtain ⟨a, b, rfl⟩ : ∃ a b : UInt8, X = ⟨#[a, b]⟩ := by
          obtain ⟨⟨L⟩⟩ := X
          match L, hx with
          | [a, b], _ => exact ⟨a, b, rfl⟩
        have hb : 128 ≤ b.toNat := HF.out (show 1 < 2 by decide)
        have hb8 : b.toNat < 256 := b.toNat_lt
        have hb1 : ((((⟨#[0, 10, 13]⟩ : ByteArray)[1]'(show 1 < 3 by decide)).toNat : Int) != (((⟨#[a, b]⟩ : ByteArray)[1]'(show 1 < 2 by decide)).toNat : Int)) = true := by
          show (((10 : UInt8).toNat : Int) != (b.toNat : Int)) = true
          have : (10 : UInt8).toNat = 10 := rfl
          simp only [bne_iff_ne, ne_eq]
          omega
        have HIB := hid (show Lib.indexByte ((⟨#[0, 10, 13]⟩ : ByteArray).extract 2 3).data.toList ((((⟨#[a, b]⟩ : ByteArray)[1]'(show 1 < 2 by decide)).toNat : Int)).toNat.toUInt8 = -1 by
          have e1 : ((⟨#[0, 10, 13]⟩ : ByteArray).extract 2 3).data.toList = [13] := by rw [Lib.extract_data]; rfl
          have e2 : ((((⟨#[a, b]⟩ : ByteArray)[1]'(show 1 < 2 by decide)).toNat : Int)).toNat.toUInt8 = b := by
            show ((b.toNat : Int)).toNat.toUInt8 = b
            simp
          rw [e1, e2]
          have hne : (13 : UInt8) ≠ b := fun e => by rw [← e] at hb; revert hb; decide
          simp [Lib.indexByte, hne])
        clear hx f1 f2 HF
        go_enter Try.func61, Try.ntmps61
        go_wp2_with (go_at_call 66; refine (hcv _).mono ?_; rintro e w' ⟨rfl, rfl⟩)
        go_step3
        go_wp2
        go_loop [9] (fun i => i = .int .i64 1) (fun _ => 0)
        case atStart => rfl
        case round =>
          subst hrel
          go_wp2
          go_step3
          go_wp2
          go_region
          go_wp2
          go_region_with (go_at_call 65; refine (Try.strings_IndexByte _ _ _).mono ?_; rintro e w'' ⟨rfl, rfl⟩; rw [HIB.out])
          all_goals
            go_wp2
            rw [Exit.noGoto_ret]
            go_wp2
            rw [Exit.noGoto_ret]
            go_wp2
            go_ret
            exact ⟨rfl, (Below.refl _ _).drew.drew⟩
      · by_cases hx3 : X.size = 3
        · obtain ⟨a, b, c, rfl⟩ : ∃ a b c : UInt8, X = ⟨#[a, b, c]⟩ := by
            obtain ⟨⟨L⟩⟩ := X
            match L, hx3 with
            | [a, b, c], _ => exact ⟨a, b, c, rfl⟩
          have hb : 128 ≤ c.toNat := HF.out (show 2 < 3 by decide)
          have hb8 : c.toNat < 256 := c.toNat_lt
          have hb1 : ((((⟨#[0, 10, 13]⟩ : ByteArray)[2]'(show 2 < 3 by decide)).toNat : Int) != (((⟨#[a, b, c]⟩ : ByteArray)[2]'(show 2 < 3 by decide)).toNat : Int)) = true := by
            show (((13 : UInt8).toNat : Int) != (c.toNat : Int)) = true
            have : (13 : UInt8).toNat = 13 := rfl
            simp only [bne_iff_ne, ne_eq]
            omega
          clear hx hx3 f1 f2 HF
          go_enter Try.func61, Try.ntmps61
          go_wp2_with (go_at_call 66; refine (hcv _).mono ?_; rintro e w' ⟨rfl, rfl⟩)
          go_step3
          go_wp2
          go_loop [9] (fun i => i = .int .i64 2) (fun _ => 0)
          case atStart => rfl
          case round =>
            subst hrel
            go_wp2
            go_step3
            go_wp2
            go_region
            go_wp2
            go_region_with (go_at_call 65; refine (Try.strings_IndexByte _ _ _).mono ?_; rintro e w'' ⟨rfl, rfl⟩)
            all_goals
              go_wp2
              rw [Exit.noGoto_ret]
              go_wp2
              rw [Exit.noGoto_ret]
              go_wp2
              go_ret
              exact ⟨rfl, (Below.refl _ _).drew.drew⟩
        · have f1' : (4 : Int) ≤ (X.size : Int) := by omega
          have f2' : (X.size : Int) ≤ 4 := by omega
          go_enter Try.func61, Try.ntmps61
          go_wp2_with (go_at_call 66; refine (hcv _).mono ?_; rintro e w' ⟨rfl, rfl⟩)
          go_step3
          go_wp2
          go_loop [9] (fun i => i = .int .i64 ((X.size : Int) - 1)) (fun _ => 0)
          case atStart => rfl
          case round =>
            subst hrel
            go_wp2
            go_ret
            exact ⟨rfl, Below.refl _ _⟩

end Go.Proofs.Ytplabofdcnpcpaa

namespace Go.Proofs.Ytplabofdcnpcpaa
open Go.RowKit

def badC (c : UInt8) : Bool := c == 0 || (c == 10 || c == 13)

theorem indexAny_bad (l : List UInt8) : decide ((0 : Int) ≤ Lib.indexAny l [0, 10, 13]) = l.any badC := by
  induction l with
  | nil => rfl
  | cons c l ih =>
    have hge := Lib.indexAny_ge [0, 10, 13] l
    have hc : [(0 : UInt8), 10, 13].contains c = badC c := by
      rw [Bool.eq_iff_iff]; simp [badC]
    have e : Lib.indexAny (c :: l) [0, 10, 13] = if [(0 : UInt8), 10, 13].contains c then 0 else if Lib.indexAny l [0, 10, 13] == -1 then -1 else Lib.indexAny l [0, 10, 13] + 1 := rfl
    rw [List.any_cons, ← ih, ← hc, e]
    generalize Lib.indexAny l [0, 10, 13] = q at hge
    cases [(0 : UInt8), 10, 13].contains c with
    | true => simp
    | false =>
      by_cases h : q = -1
      · subst h; rfl
      · have h' : (q == -1) = false := by simpa using h
        rw [h']
        simp
        omega

/-- A value as a header may carry it. -/
def valT (l : List UInt8) : List UInt8 := Lib.trimS l [9, 10, 13, 32]
def valB (l : List UInt8) : Bool := !(valT l).any badC

theorem trimS_le (l c : List UInt8) : (Lib.trimS l c).length ≤ l.length := by
  unfold Lib.trimS Lib.trimLeftS Lib.trimRightS
  have h1 := (List.dropWhile_sublist (l := l.reverse) (c.contains ·)).length_le
  have h2 := (List.dropWhile_sublist (l := (l.reverse.dropWhile (c.contains ·)).reverse) (c.contains ·)).length_le
  simp at h1 h2 ⊢
  omega

/-- What Value answers: the text without blanks at its ends; the empty one, if it may not be. -/
def valA (l : List UInt8) : List UInt8 := if valB l then valT l else []

end Go.Proofs.Ytplabofdcnpcpaa

namespace Go.Proofs.Ytplabofdcnpcpaa
open Go.RowKit

theorem results_h2 {fn : Func} {p q : Tmp} (h : fn.results = #[.cell p 29, .tmp q]) (tmps : Array Value) (w : World) (b : Nat) (n v : ByteArray) (hp : tmps.getD p undef = .pointer (some ⟨b, 0, none⟩)) (hc : w.rangeAt b 0 [.string n, .string v]) : (results fn tmps).run Try.prog w = .ok (.tuple #[hdVal n v, tmps.getD q undef]) w := by
  rw [Array.getD_eq_getD_getElem?] at hp
  simp only [results, h]
  simp [Sem.run_bind, Result.andThen, hp, asAddr, run_loadVar_mid w b 0 29 [.string n, .string v] _ hc Try.underlying29 rfl (by kernel_rfl), hdVal]

/-- Why a header may not be. -/
def hdE (n v : List UInt8) : Nat := if valB v = false ∨ tokL n = false then 1 else if 4096 < n.length ∨ 4096 < (valT v).length then 3 else 0

/-- The block b holds the header n: v. -/
def Two (w : World) (b : Nat) (n v : ByteArray) : Prop := w.heap[b]? = some (.cells #[.string n, .string v] 29 (0, 0))

theorem Two.range {w : World} {b : Nat} {n v : ByteArray} (h : Two w b n v) : w.rangeAt b 0 [.string n, .string v] := fun j u hu => by
  rw [Nat.zero_add, Lib.cell_of_heap h]
  match j, hu with
  | 0, hu => simpa using hu
  | 1, hu => simpa using hu
  | j + 2, hu => simp at hu

theorem Two.cells {w : World} {b : Nat} {n v : ByteArray} (h : Two w b n v) : w.cell? ⟨b, 0, none⟩ = some (.string n) ∧ w.cell? ⟨b, 1, none⟩ = some (.string v) ∧ w.frozen? ⟨b, 0, none⟩ = false ∧ w.frozen? ⟨b, 1, none⟩ = false :=
  ⟨by rw [Lib.cell_of_heap h]; rfl, by rw [Lib.cell_of_heap h]; rfl, Lib.frozen_of_heap h 0, Lib.frozen_of_heap h 1⟩

theorem Two.set {w : World} {b : Nat} {n v n' v' : ByteArray} (h : Two w b n v) : Two ((w.setCell ⟨b, 0, none⟩ (.string n')).setCell ⟨b, 1, none⟩ (.string v')) b n' v' := by
  have h1 := Lib.heap_setCell_same h (i := 0) (.string n')
  have h2 := Lib.heap_setCell_same h1 (i := 1) (.string v')
  exact h2

def addE (L : List Hd) (n v : List UInt8) : Nat := if hdE n v ≠ 0 then hdE n v else if 64 ≤ L.length then 4 else 0

/-- What Add answers. -/
def AddPost (L : List Hd) (n v : List UInt8) (w : World) (e : Ending) (w' : World) : Prop :=
  Below w.heap.size w w' ∧ ((addE L n v ≠ 0 ∧ e = .returned (.tuple #[.slice none 0 0, .int .i64 (addE L n v : Int)])) ∨
    (addE L n v = 0 ∧ ∃ vv, e = .returned (.tuple #[vv, .int .i64 0]) ∧ w'.ownsRow w.heap.size 29 2 vv (L.length + 1) (cellsH (L ++ [⟨n, valT v⟩]))))

end Go.Proofs.Ytplabofdcnpcpaa

namespace Go.Proofs.Ytplabofdcnpcpaa
open Go.RowKit

/-- The headers of other names. -/
def dropV (L : List Hd) (n : List UInt8) : List Hd := L.filter fun h => !isN n h

theorem dropV_snoc (L : List Hd) (h : Hd) (n : List UInt8) : dropV (L ++ [h]) n = dropV L n ++ (if isN n h then [] else [h]) := by
  unfold dropV
  rw [List.filter_append]
  by_cases hh : isN n h = true <;> simp [hh]

theorem dropV_len (L : List Hd) (n : List UInt8) : (dropV L n).length ≤ L.length := List.length_filter_le _ _

theorem hd_eta (h : Hd) (a b : ByteArray) (ha : a = ⟨h.name.toArray⟩) (hb : b = ⟨h.value.toArray⟩) : [Value.string a, .string b] = cellsH [h] := by rw [ha, hb]; rfl

/-- It is no nil slice. -/
def NonNil (v : Value) : Prop := v ≠ .slice none 0 0

/-- A list of headers in a block of its own, as it is answered. -/
def HdPost2 (L : List Hd) (w : World) (e : Ending) (w' : World) : Prop := ∃ v, e = .returned v ∧ w'.ownsRow w.heap.size 29 2 v L.length (cellsH L) ∧ Below w.heap.size w w' ∧ NonNil v

theorem NonNil.form {w : World} {B n : Nat} {e : TypeId} {k : Nat} {v : Value} {xs : List Value} (h : NonNil v) (ho : w.ownsRow B e k v n xs) : ∃ g cap, v = .slice (some ⟨g, 0, none⟩) n cap ∧ n ≤ cap ∧ cap ≤ maxLen := by
  rcases ho.2 with ⟨hv, _⟩ | ⟨g, cap, cur, rfl, _, _, h1, h2, _⟩
  · exact absurd hv h
  · exact ⟨g, cap, rfl, h1, h2⟩

/-- Where the first header of that name stands. -/
def firstV (L : List Hd) (n : List UInt8) : Option Nat := L.findIdx? (isN n)

end Go.Proofs.Ytplabofdcnpcpaa

namespace Go.Proofs.Ytplabofdcnpcpaa
open Go.RowKit

/-- An append to a row of the call's own, in a region that draws its order. -/
theorem xstep_append_own {P : Program} {ops : Array Oper} {o : Oper} {a : Act} {w : World} {K : Act → World → Prop} {Q : Exit → Act → World → Prop} {E : Prop} (hgd : o.guard = none) (s x : Operand) (t : TypeId)
    (ho : o.op = .call { callee := .builtin .append, args := #[s, x], argTypes := #[t, t] })
    (base : Nat) (e : TypeId) (i : TypeInfo) (z : Value) (size bytes : Nat) (ht : P.underlying t = some (.slice e)) (hi : P.info? e = some i) (hz : i.zero = some z)
    (hsize : i.size = size) (hby : i.bytes = bytes) (hzs : z.cells.size = size) (hsz : 0 < size)
    (v : Value) (n : Nat) (xs : List Value) (hs : a.eval s = v) (hown : w.ownsRow base e size v n xs)
    (ad : Addr) (m c : Nat) (news : List Value) (hx : a.eval x = .slice (some ad) m c) (hl : news.length = m * size) (hnews : ∀ j u, news[j]? = some u → w.cell? (ad.add j) = some u) (h1 : ∀ u ∈ news, u.oneCell' = true)
    (h63 : n + m ≤ maxLen) (hbytes : (n + m) * bytes ≤ 140737488355328) (hbase : base ≤ w.heap.size)
    (h : ∀ v' w', w'.ownsRow base e size v' (n + m) (xs ++ news) → w.grownBy w' v.ownBlock → (v' = .slice none 0 0 ↔ v = .slice none 0 0 ∧ m = 0) → K (a.put o.dst v') w') :
    if Region.wanted o (yielded ops a.tmps) = true then Oper.wp P o a w K Q else E := by
  rw [if_pos (by simp [Region.wanted, hgd])]
  exact wp_append_own w s x t ho base e i z size bytes ht hi hz hsize hby hzs hsz v n xs hs hown ad m c news hx hl hnews h1 h63 hbytes hbase h

theorem hd_take {w : World} {a : Option Addr} {n cap : Nat} {L : List Hd} (h : HdAt w (.slice a n cap) L) (k : Nat) (hk : k ≤ L.length) : HdAt w (.slice a k cap) (L.take k) := by
  obtain ⟨a', cap', e, h1, h2, h3⟩ := h
  cases e
  have hl : (L.take k).length = k := by simp; omega
  refine ⟨a, cap, by rw [hl], by omega, h2, fun j hj => ?_⟩
  rw [hl] at hj
  have := h3 j (by omega)
  simpa using this

theorem hd_drop {w : World} {b off n cap : Nat} {L : List Hd} (h : HdAt w (.slice (some ⟨b, off, none⟩) n cap) L) (k : Nat) (hk : k ≤ L.length) : HdAt w (.slice (some ⟨b, off + k * 2, none⟩) (n - k) (cap - k)) (L.drop k) := by
  obtain ⟨a', cap', e, h1, h2, h3⟩ := h
  cases e
  have hl : (L.drop k).length = L.length - k := by simp
  refine ⟨_, cap - k, by rw [hl], by omega, by omega, fun j hj => ?_⟩
  rw [hl] at hj
  obtain ⟨b', off', e, c1, c2⟩ := h3 (k + j) (by omega)
  cases e
  refine ⟨b, off + k * 2, rfl, ?_, ?_⟩
  · rw [show off + k * 2 + j * 2 = off + (k + j) * 2 by omega, c1]; simp
  · rw [show off + k * 2 + j * 2 = off + (k + j) * 2 by omega, c2]; simp

def setE (L : List Hd) (n v : List UInt8) : Nat := match firstV L n with | none => addE L n v | some _ => hdE n v

/-- The list with the value in the place of all that the name had. -/
def setV (L : List Hd) (n v : List UInt8) : List Hd := match firstV L n with
  | none => L ++ [⟨n, valT v⟩]
  | some k => L.take k ++ [⟨(L.getD k ⟨[], []⟩).name, valT v⟩] ++ dropV (L.drop (k + 1)) n

/-- What Set answers. -/
def SetPost (L : List Hd) (n v : List UInt8) (w : World) (e : Ending) (w' : World) : Prop :=
  Below w.heap.size w w' ∧ ((setE L n v ≠ 0 ∧ e = .returned (.tuple #[.slice none 0 0, .int .i64 (setE L n v : Int)])) ∨
    (setE L n v = 0 ∧ ∃ vv, e = .returned (.tuple #[vv, .int .i64 0]) ∧ w'.ownsRow w.heap.size 29 2 vv (setV L n v).length (cellsH (setV L n v))))

end Go.Proofs.Ytplabofdcnpcpaa

namespace Go.Proofs.Ytplabofdcnpcpaa
open Go.RowKit

theorem hd_ext {a b : Hd} (h1 : a.name = b.name) (h2 : a.value = b.value) : a = b := by cases a; cases b; simp at h1 h2; simp [h1, h2]

def forbL : List (List UInt8) := [[104, 111, 115, 116], [99, 111, 111, 107, 105, 101], [111, 114, 105, 103, 105, 110], [114, 101, 102, 101, 114, 101, 114], [99, 111, 110, 116, 101, 110, 116, 45, 108, 101, 110, 103, 116, 104], [99, 111, 110, 110, 101, 99, 116, 105, 111, 110], [100, 97, 116, 101], [118, 105, 97], [116, 101], [117, 112, 103, 114, 97, 100, 101], [101, 120, 112, 101, 99, 116], [100, 110, 116], [97, 99, 99, 101, 112, 116, 45, 99, 104, 97, 114, 115, 101, 116], [97, 99, 99, 101, 112, 116, 45, 101, 110, 99, 111, 100, 105, 110, 103], [97, 99, 99, 101, 115, 115, 45, 99, 111, 110, 116, 114, 111, 108, 45, 114, 101, 113, 117, 101, 115, 116, 45, 104, 101, 97, 100, 101, 114, 115], [97, 99, 99, 101, 115, 115, 45, 99, 111, 110, 116, 114, 111, 108, 45, 114, 101, 113, 117, 101, 115, 116, 45, 109, 101, 116, 104, 111, 100], [107, 101, 101, 112, 45, 97, 108, 105, 118, 101], [116, 114, 97, 105, 108, 101, 114], [116, 114, 97, 110, 115, 102, 101, 114, 45, 101, 110, 99, 111, 100, 105, 110, 103]]
/-- What a page may not set. -/
def forbV (n : List UInt8) : Bool := forbL.contains (low n) || (Lib.hasPrefix (low n) [112, 114, 111, 120, 121, 45] || Lib.hasPrefix (low n) [115, 101, 99, 45])

theorem low_size (n : ByteArray) : (low n.data.toList).length = n.size := by rw [low_len]; simp

/-- Block g holds the bytes l, and nothing else. -/
def RowZ (w : World) (g : Nat) (l : List UInt8) : Prop := w.heap[g]? = some (.cells (l.map fun c => Value.int .u8 (c.toNat : Int)).toArray 5 (0, 0))

theorem RowZ.cell {w : World} {g : Nat} {l : List UInt8} (h : RowZ w g l) (j : Nat) (hj : j < l.length) : w.cell? ⟨g, j, none⟩ = some (.int .u8 (l[j].toNat : Int)) := by
  rw [Lib.cell_of_heap h]; simp [hj]

theorem RowZ.set {w : World} {g : Nat} {l : List UInt8} (h : RowZ w g l) (j : Nat) (c : UInt8) : RowZ (w.setCell ⟨g, j, none⟩ (.int .u8 (c.toNat : Int))) g (l.set j c) := by
  have := Lib.heap_setCell_same h (i := j) (.int .u8 (c.toNat : Int))
  unfold RowZ
  rw [this]
  simp [List.map_set]

theorem RowZ.string {w : World} {g cap : Nat} {l : List UInt8} (h : RowZ w g l) : (convert 70 9 (.slice (some ⟨g, 0, none⟩) l.length cap)).run Try.prog w = .ok (.string ⟨l.toArray⟩) w := by
  refine run_convert_bytes_back w 70 9 5 ⟨g, 0, none⟩ cap l Try.underlying70 Try.underlying5 Try.underlying9 fun j hj => ?_
  have := h.cell j hj
  rw [Addr.add_lit]
  simpa using this

def lonL (n k : Nat) : List UInt8 := List.replicate k 97 ++ List.replicate (n - k) 0

theorem lonL_len (n k : Nat) (h : k ≤ n) : (lonL n k).length = n := by simp [lonL]; omega

theorem lonL_set (n k : Nat) (h : k < n) : (lonL n k).set k 97 = lonL n (k + 1) := by
  unfold lonL
  rw [List.set_append, if_neg (by simp), List.length_replicate, Nat.sub_self, show n - k = (n - (k + 1)) + 1 by omega, List.replicate_succ, List.set_cons_zero]
  rw [List.replicate_succ']
  simp

theorem infoU8 : (Try.prog.info? 5).map (fun i => (i.zero, i.size, i.bytes)) = some (some (.int .u8 0), 1, 1) := by kernel_rfl

/-- So many letters. -/
def lonV (n : Nat) : List UInt8 := List.replicate n 97

end Go.Proofs.Ytplabofdcnpcpaa

namespace Go.Proofs.Ytplabofdcnpcpaa
open Go.RowKit

set_option maxHeartbeats 400000 in
theorem xfew_any (s : ByteArray) (n : Nat) (w : World) (hn : n ≤ 1000000) (hs : s.size ≤ 9223372036854775807) :
    Calls Try.prog 17 #[.string s, .int .i64 n] w fun e w' => e = .returned (.string ⟨(s.data.toList.take n).toArray⟩) ∧ w = w' := by
  by_cases h : n < s.size
  · have h' : (n : Int) < (s.size : Int) := by omega
    have HE := hid (show s.extract 0 n = ⟨(s.data.toList.take n).toArray⟩ from xext (by rw [Lib.extract_data]; simp))
    go_enter Try.func17, Try.ntmps17
    go_wp2
    go_ret
    rw [← HE.out]
    exact ⟨rfl, rfl⟩
  · have h' : ¬ ((n : Int) < (s.size : Int)) := by omega
    have HE := hid (show s = ⟨(s.data.toList.take n).toArray⟩ from xext (by rw [List.take_of_length_le (by simp; omega)]))
    go_enter Try.func17, Try.ntmps17
    go_wp2
    go_ret
    rw [← HE.out]
    exact ⟨rfl, rfl⟩

def xwithinI (n lo hi : Int) : Int :=
  let r := n.tmod (hi - lo + 1)
  if r < 0 then lo + (r + hi - lo + 1) else lo + r

theorem xwithin_mod (n m : Int) (hm : 0 < m) : -m < n.tmod m ∧ n.tmod m < m := by
  refine ⟨?_, Int.tmod_lt_of_pos n hm⟩
  have h1 := Int.tmod_lt_of_pos (-n) hm
  rw [Int.neg_tmod] at h1
  omega

theorem xwithinI_bounds (n lo hi : Int) (h : lo ≤ hi) : lo ≤ xwithinI n lo hi ∧ xwithinI n lo hi ≤ hi := by
  have hb := xwithin_mod n (hi - lo + 1) (by omega)
  unfold xwithinI
  simp only
  split <;> omega

end Go.Proofs.Ytplabofdcnpcpaa

namespace Go.Proofs.Ytplabofdcnpcpaa
open Go.RowKit

def fewHd (m : Nat) (h : Hd) : Hd := ⟨h.name.take m, h.value.take m⟩
/-- The first n headers, each text cut at m bytes. -/
def fewH (L : List Hd) (n m : Nat) : List Hd := (L.take n).map (fewHd m)

theorem fewH_len (L : List Hd) (n m : Nat) : (fewH L n m).length ≤ n := by simp [fewH]; omega

theorem fewH_szd (L : List Hd) (n m : Nat) : Szd m (fewH L n m) := fun h hh => by
  unfold fewH at hh
  obtain ⟨a, _, rfl⟩ := List.mem_map.1 hh
  simp [fewHd]; omega

theorem Szd.mono {a b : Nat} {L : List Hd} (h : Szd a L) (hab : a ≤ b) : Szd b L := fun x hx => ⟨Nat.le_trans (h x hx).1 hab, Nat.le_trans (h x hx).2 hab⟩

theorem Szd.bulk {a : Nat} {L : List Hd} (h : Szd a L) : bulkV L ≤ (a + 2) * L.length := by
  unfold bulkV
  induction L with
  | nil => simp
  | cons x L ih =>
    have h1 := (h x (by simp)).2
    have := ih (fun y hy => h y (by simp [hy]))
    simp only [List.map_cons, List.sum_cons, List.length_cons]
    rw [Nat.mul_add]
    omega

set_option maxHeartbeats 2000000 in
set_option maxRecDepth 100000 in
theorem fewHeaders_any (v : Value) (L : List Hd) (n m : Nat) (w : World) (h : HdAt w v L) (hz : Szd maxLen L) (hn : n ≤ 1000) (hm : m ≤ 1000) :
    Calls Try.prog 18 #[v, .int .i64 n, .int .i64 m] w (HdPost (fewH L n m) w) := by
  obtain ⟨i0, hi, hz0, hz1, hz2⟩ := info3 infoHd
  obtain ⟨a1, c1, rfl, hc1, hm1, hv1⟩ := h.view
  have V1 := hid hv1
  have HZ := hid hz
  clear h hv1 hz
  go_enter Try.func18, Try.ntmps18
  go_wp2
  go_loopw [7, 8] (fun vv i wr => ∃ k : Nat, k ≤ L.length ∧ k ≤ n ∧ i = .int .i64 k ∧ wr.ownsRow w.heap.size 29 2 vv k (cellsH (fewH L k m)) ∧ Below w.heap.size w wr)
    (fun _ i _ => L.length - (intOf i).toNat)
  case atStart => exact ⟨0, Nat.zero_le _, Nat.zero_le _, rfl, World.ownsRow_nil _ _ _ _, Below.refl _ _⟩
  case round =>
    obtain ⟨k, hk, hkn, rfl, hown, hbw⟩ := hrel
    have HO := hid hown
    have hwr := hbw.size
    clear hown
    by_cases hlt : k < L.length
    · have hlt' : (k : Int) < (L.length : Int) := by omega
      by_cases hltn : k < n
      · have hltn' : (k : Int) < (n : Int) := by omega
        obtain ⟨b1, o1, rfl, e1, e2⟩ := V1.out k hlt
        have f1 : wr.cell? ⟨b1, o1 + k * 2, none⟩ = some (.string ⟨L[k].name.toArray⟩) := (hbw.cell (World.block_lt_of_cell? w _ e1)).trans e1
        have f2 : wr.cell? ⟨b1, o1 + k * 2 + 1, none⟩ = some (.string ⟨L[k].value.toArray⟩) := (hbw.cell (World.block_lt_of_cell? w _ e2)).trans e2
        obtain ⟨nm, hnm⟩ : ∃ x : ByteArray, x = ⟨L[k].name.toArray⟩ := ⟨_, rfl⟩
        obtain ⟨vl, hvl⟩ : ∃ x : ByteArray, x = ⟨L[k].value.toArray⟩ := ⟨_, rfl⟩
        rw [← hnm] at f1 e1
        rw [← hvl] at f2 e2
        have hs1 : nm.size ≤ 9223372036854775807 := by rw [hnm, xsize]; exact (HZ.out _ (List.getElem_mem hlt)).1
        have hs2 : vl.size ≤ 9223372036854775807 := by rw [hvl, xsize]; exact (HZ.out _ (List.getElem_mem hlt)).2
        obtain ⟨nm', hnm'⟩ : ∃ x : ByteArray, x = ⟨(nm.data.toList.take m).toArray⟩ := ⟨_, rfl⟩
        obtain ⟨vl', hvl'⟩ : ∃ x : ByteArray, x = ⟨(vl.data.toList.take m).toArray⟩ := ⟨_, rfl⟩
        have HF1 := hid hnm'
        have HF2 := hid hvl'
        have HS := hid (show cellsH (fewH L (k + 1) m) = cellsH (fewH L k m) ++ [.string nm', .string vl'] by
          unfold fewH
          rw [List.take_add_one, List.getElem?_eq_getElem hlt, List.map_append, cellsH_app]
          congr 1
          rw [hnm', hvl', hnm, hvl]; rfl)
        have hblk2 : b1 < w.heap.size := World.block_lt_of_cell? w _ e1
        have HK := hid (fun (X : World) (hX : Below w.heap.size w X) => (⟨hX, (hX.cell hblk2).trans e1, (hX.cell hblk2).trans e2⟩ : Below w.heap.size w X ∧ X.cell? ⟨b1, o1 + k * 2, none⟩ = some (.string nm) ∧ X.cell? ⟨b1, o1 + k * 2 + 1, none⟩ = some (.string vl)))
        have hbD : Below w.heap.size w wr.drew := hbw.drew
        clear e1 e2 hblk2
        clear hnm hvl hnm' hvl'
        go_wp2
        go_region_held_law (fun wx => Below w.heap.size w wx ∧ wx.cell? ⟨b1, o1 + k * 2, none⟩ = some (.string nm) ∧ wx.cell? ⟨b1, o1 + k * 2 + 1, none⟩ = some (.string vl))
          (first | exact HK.out _ hbD | exact HK.out _ (by assumption) | (go_split_ands; exact HK.out _ (by assumption)) | (go_split_ands; exact HK.out _ (belowA (by assumption) _)))
          (first
            | (go_at_call 17; refine (xfew_any _ m _ (by omega) (by assumption)).mono ?_; rintro e w' ⟨rfl, rfl⟩; first | rw [← HF1.out] | rw [← HF2.out])
            | (refine xstep_append_own rfl (.tmp 20) (.tmp 36) 30 rfl w.heap.size 29 i0 _ 2 32 Try.underlying30 hi hz0 hz1 hz2 rfl (by decide) u7 k (cellsH (fewH L k m)) rfl (by exact HO.out.alloc _) ⟨wr.heap.size, 0, none⟩ 1 1 [.string nm', .string vl'] rfl rfl (by intro j u hj; match j, hj with | 0, hj => (simp at hj; subst hj; simp [Addr.add]) | 1, hj => (simp at hj; subst hj; simp [Addr.add])) (by intro u hu; simp at hu; rcases hu with rfl | rfl <;> rfl) (by unfold maxLen; omega) (by omega) (by simp; omega) ?_; intro v6 w6 hown6 hgrow6 hnil6; have hbW6 : Below w.heap.size w w6 := (belowA hbD _).grown hgrow6 (by simp; omega) (fun g hg => (HO.out.lt g hg).1)))
        all_goals
          (try dsimp only at *)
          go_wp2
          go_roundw
          case rel =>
            refine ⟨k + 1, by omega, by omega, by go_num, ?_, hbW6⟩
            rw [HS.out]
            first | exact hown6 | simpa using hown6
          case measure => simp [intOf]; omega
      · have hltn' : decide ((k : Int) < (n : Int)) = false := by rw [decide_eq_false_iff_not]; omega
        have hke : k = n := by omega
        subst hke
        have hlen : (fewH L k m).length = k := by simp [fewH]; omega
        have HR := hid (show wr.ownsRow w.heap.size 29 2 u7 (fewH L k m).length (cellsH (fewH L k m)) by rw [hlen]; exact HO.out)
        clear hlen
        go_wp2
        go_ret
        exact ⟨_, rfl, HR.out, hbw⟩
    · have hke : k = L.length := by omega
      subst hke
      have hlt' : decide ((L.length : Int) < (L.length : Int)) = false := by rw [decide_eq_false_iff_not]; omega
      have hef : fewH L L.length m = fewH L n m := by
        unfold fewH
        rw [List.take_length, List.take_of_length_le hkn]
      have hlen : (fewH L n m).length = L.length := by rw [← hef]; simp [fewH]
      have HR := hid (show wr.ownsRow w.heap.size 29 2 u7 (fewH L n m).length (cellsH (fewH L n m)) by rw [hlen, ← hef]; exact HO.out)
      clear hlen hef
      go_wp2
      go_ret
      exact ⟨_, rfl, HR.out, hbw⟩

end Go.Proofs.Ytplabofdcnpcpaa
