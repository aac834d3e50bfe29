/-
  Walks and plain facts that this claim leans on, put together out of 9 texts: Wr, Wt, Wu, Ga, Gb, Gc, Gd, Do, Ge.
-/
import Derived.Test.YtjmkccnjjofmeaaGreatDoorProg
import Derived.Test.YtjmkccnjjofmeaaGreatDoorQa1
import Derived.Test.YtjmkccnjjofmeaaGreatDoorQa2
import Derived.Test.YtjmkccnjjofmeaaGreatDoorQa3
import Derived.Test.YtjmkccnjjofmeaaGreatDoorQa4
import Derived.Test.YtjmkccnjjofmeaaGreatDoorQa5
import Derived.Test.YtjmkccnjjofmeaaGreatDoorQa6
import Derived.Test.YtjmkccnjjofmeaaGreatDoorQa7
import Derived.Test.YtjmkccnjjofmeaaGreatDoorQa8
import Derived.Test.YtjmkccnjjofmeaaGreatDoorQa9
import Derived.Test.YtjmkccnjjofmeaaGreatDoorQa10
import Derived.Test.YtjmkccnjjofmeaaGreatDoorQa11
import Derived.Test.YtjmkccnjjofmeaaGreatDoorQa12
import Derived.Test.YtjmkccnjjofmeaaGreatDoorQa13
import Derived.Test.YtjmkccnjjofmeaaGreatDoorQa14
import Derived.Test.YtjmkccnjjofmeaaGreatDoorQa15
import Derived.Test.YtjmkccnjjofmeaaGreatDoorQa16
import Derived.Test.YtjmkccnjjofmeaaGreatDoorQa17
import Derived.Test.YtjmkccnjjofmeaaGreatDoorQa18
import Derived.Test.YtjmkccnjjofmeaaGreatDoorQa19
import Derived.Test.YtjmkccnjjofmeaaGreatDoorQa20
import Derived.Test.YtjmkccnjjofmeaaGreatDoorQa21
import Derived.Test.YtjmkccnjjofmeaaGreatDoorQa22
import Derived.Test.YtjmkccnjjofmeaaGreatDoorQa23
import Derived.Test.YtjmkccnjjofmeaaGreatDoorQa24
import Derived.Test.YtjmkccnjjofmeaaGreatDoorQa25
import Derived.Test.YtjmkccnjjofmeaaGreatDoorQa26
import Derived.Test.YtjmkccnjjofmeaaGreatDoorQa27
import Derived.Test.YtjmkccnjjofmeaaGreatDoorQa28
import Derived.Deep.RegionLaw
import Derived.WalkKit
import Derived.WalkSpells
import Derived.WalkLawsBesides
import Derived.Lib.FrozenHead2
import Derived.Lib.OthersKept
import Derived.Lib.Builder
import Derived.Lib.UnsafeStr
import Derived.Lib.Strings
import Derived.Laws.IdiomStrings
import Derived.Laws.AppendOwn
import Derived.Lib.BufferRead
import Derived.Lib.RuneBytes
import Derived.Laws.RangeAny
import Derived.Laws.CopyOwn
import Derived.Deep.QuietTactic
import Derived.BigQuiet
import Derived.WalkSmall
import Derived.Lib.BufferMore
import Derived.Deep.RegionHeld
import Derived.Lib.Bytealg
import Derived.Laws.BitsAllLaws
import Derived.Laws.BytesString
import Derived.Deep.RegionWith
import Derived.Lib.SlTrimSet
import Derived.Lib.Join
import Derived.Lib.IndexMore
import Derived.Scope
import Derived.ScopeJumps
import Derived.WalkMore
import Derived.Deep.LoopGhost
import Derived.BigRegion
import Derived.Lib.DecodeN
import Derived.RegionTactic
import Derived.Lib.AppendIntMem
import Derived.Lib.SmallJoins
import Derived.OwnWalk
import Derived.Lib.IndexAny
import Derived.Deep.MidRow
import Derived.Lib.AppendStr
import Derived.Lib.Replace
import Derived.Laws.Runes
import Derived.Deep.RegionHeldLaw
import Derived.Deep.WholeRow
import Derived.Shelf.Strings.Builder1
import Derived.Shelf.Strings.Builder2
import Derived.Shelf.Strings.OnBuilder
import Derived.Shelf.Strings.Trim
import Derived.Shelf.Small.Utf8
import Derived.Shelf.Small.Strs
import Derived.Shelf.Small.Wraps
import Derived.Shelf.Strings.BuilderF
import Derived.Shelf.Strings.BuilderK
import Derived.Shelf.Strings.Builder2Cap
import Derived.Shelf.Strconv.Itoa0
import Derived.Shelf.Strconv.Itoa1
import Derived.Shelf.LaysM
import Derived.Shelf.Strconv.Itoa2
import Derived.Shelf.Strconv.Itoa3
import Derived.Shelf.Strings.Search1
import Derived.Shelf.Strings.Search2
import Derived.Shelf.Strings.Search3
import Derived.Shelf.Strings.Cut
import Derived.Shelf.Strings.Count
import Derived.Shelf.Strings.Shaped
import Derived.Shelf.Strings.Prefix
import Derived.Shelf.Strings.Split
import Derived.Shelf.Strings.Replace
import Derived.Shelf.Strings.Runes
import Derived.Shelf.Strings.IndexAny
import Derived.Shelf.Strings.AsciiSet
import Derived.Shelf.Strings.IndexAnyAll
import Derived.Shelf.Unicode.DecodeSlow
import Derived.Laws.OwnMore
import Derived.Below
import Derived.Maps.OwnSet
import Derived.Maps.OwnOps
import Derived.Maps.AppendAt
import Derived.StringKeys
import Derived.Lib.LastIndexByte
import Derived.Lib.TrimByte
import Derived.LoopN
import Derived.Shelf.Strings.SlTrimAscii
import Derived.Laws.ResultCell
import Derived.Lib.ItoaNum
import Derived.Laws.CopyRow
import Derived.Laws.AppendOwnNone
import Derived.Deep.Cut
set_option linter.unusedSimpArgs false
set_option linter.unusedVariables false

namespace Go.Proofs.YtjmkccnjjofmeaaGreatDoor
open Go.RowKit

theorem infoBytes : (Tryz.prog.info? 27).map (fun i => (i.zero, i.size, i.bytes)) = some (some (.slice none 0 0), 1, 24) := by kernel_rfl

theorem hid0 {p : Prop} (h : p) : RowKit.Hid p := h

/-- The mark of place j in list i. -/
def markI (i j : Nat) : Int := ((i : Int) + 1) / 2 ^ (8 * (j % 3)) % 256

theorem ownsRow_slice {w : World} {B : Nat} {e : TypeId} {size : Nat} {v : Value} {n : Nat} {xs : List Value} (h : w.ownsRow B e size v n xs) : ∃ a k c, v = .slice a k c := by
  rcases h.2 with ⟨rfl, _⟩ | ⟨g, cap, cur, rfl, _⟩
  · exact ⟨_, _, _, rfl⟩
  · exact ⟨_, _, _, rfl⟩

theorem cell_of_heapE {w : World} {b : Nat} {cs : Array Value} {T : TypeId} {fr : Nat × Nat} (hb : w.heap[b]? = some (.cells cs T fr)) (j : Nat) (v : Value) (h : cs[j]? = some v) : w.cell? ⟨b, j, none⟩ = some v := by rw [Lib.cell_of_heap hb]; exact h

/-- The kind of an owned row's block. -/
theorem ownsRow_kind {w : World} {B : Nat} {e : TypeId} {size : Nat} {v : Value} {n : Nat} {xs : List Value} (h : w.ownsRow B e size v n xs) (g : Nat) (hg : v.ownBlock = some g) : ∃ cur, w.heap[g]? = some (.cells cur e (0, 0)) := by
  rcases h.2 with ⟨rfl, _⟩ | ⟨g', cap, cur, rfl, hb, hgg, rest⟩
  · simp [Value.ownBlock] at hg
  · simp [Value.ownBlock] at hg
    subst hg
    exact ⟨cur, hgg⟩

/-- A block of another kind is no owned row's. -/
theorem ownsRow_other {w : World} {B : Nat} {e f : TypeId} {size : Nat} {v : Value} {n : Nat} {xs : List Value} {p : Nat} {cs : Array Value} {fr : Nat × Nat} (h : w.ownsRow B e size v n xs) (hp : w.heap[p]? = some (.cells cs f fr)) (hne : f ≠ e) : v.ownBlock ≠ some p := by
  intro hg
  obtain ⟨cur, hc⟩ := ownsRow_kind h p hg
  rw [hp] at hc
  injection hc with hc
  injection hc with _ hc _
  exact hne hc

theorem step_append_where {P : Program} {ops : Array Oper} {o : Oper} {a : Act} {w : World} {K : Act → World → Prop} {Q : Exit → Act → World → Prop} {E : Prop} (hgd : o.guard = none) (s x : Operand) (t : TypeId)
    (ho : o.op = .call { callee := .builtin .append, args := #[s, x], argTypes := #[t, t] })
    (base : Nat) (e : TypeId) (i : TypeInfo) (z : Value) (size bytes : Nat) (ht : P.underlying t = some (.slice e)) (hi : P.info? e = some i) (hz : i.zero = some z)
    (hsize : i.size = size) (hby : i.bytes = bytes) (hzs : z.cells.size = size) (hsz : 0 < size)
    (v : Value) (n : Nat) (xs : List Value) (hs : a.eval s = v) (hown : w.ownsRow base e size v n xs)
    (ad : Addr) (m c : Nat) (news : List Value) (hx : a.eval x = .slice (some ad) m c) (hl : news.length = m * size) (hnews : ∀ j u, news[j]? = some u → w.cell? (ad.add j) = some u) (h1 : ∀ u ∈ news, u.oneCell' = true)
    (h63 : n + m ≤ maxLen) (hbytes : (n + m) * bytes ≤ 140737488355328) (hbase : base ≤ w.heap.size) (hm : 0 < m)
    (h : ∀ v' w', w'.ownsRow base e size v' (n + m) (xs ++ news) → w.grownBy w' v.ownBlock → AppAt w v v' (n + m) → K (a.put o.dst v') w') :
    if Region.wanted o (yielded ops a.tmps) = true then Oper.wp P o a w K Q else E := by
  rw [if_pos (by simp [Region.wanted, hgd])]
  exact wp_append_where w s x t ho base e i z size bytes ht hi hz hsize hby hzs hsz v n xs hs hown ad m c news hx hl hnews h1 h63 hbytes hbase hm h

theorem bytes_oneC (l : List UInt8) : ∀ v ∈ Lib.byteCells l, v.oneCell' = true := by
  intro u hu
  simp only [Lib.byteCells, List.mem_map] at hu
  obtain ⟨_, _, rfl⟩ := hu
  rfl

theorem step_append_own0 {P : Program} {ops : Array Oper} {o : Oper} {a : Act} {w : World} {K : Act → World → Prop} {Q : Exit → Act → World → Prop} {E : Prop} (hgd : o.guard = none) (s x : Operand) (t : TypeId)
    (ho : o.op = .call { callee := .builtin .append, args := #[s, x], argTypes := #[t, t] })
    (base : Nat) (e : TypeId) (i : TypeInfo) (z : Value) (size bytes : Nat) (ht : P.underlying t = some (.slice e)) (hi : P.info? e = some i) (hz : i.zero = some z)
    (hsize : i.size = size) (hby : i.bytes = bytes) (hzs : z.cells.size = size) (hsz : 0 < size)
    (v : Value) (n : Nat) (xs : List Value) (hs : a.eval s = v) (hown : w.ownsRow base e size v n xs)
    (ad : Addr) (m c : Nat) (news : List Value) (hx : a.eval x = .slice (some ad) m c) (hl : news.length = m * size) (hnews : ∀ j u, news[j]? = some u → w.cell? (ad.add j) = some u) (h1 : ∀ u ∈ news, u.oneCell' = true)
    (h63 : n + m ≤ maxLen) (hbytes : (n + m) * bytes ≤ 140737488355328) (hbase : base ≤ w.heap.size)
    (h : ∀ v' w', w'.ownsRow base e size v' (n + m) (xs ++ news) → w.grownBy w' v.ownBlock → (v' = .slice none 0 0 ↔ v = .slice none 0 0 ∧ m = 0) → K (a.put o.dst v') w') :
    if Region.wanted o (yielded ops a.tmps) = true then Oper.wp P o a w K Q else E := by
  rw [if_pos (by simp [Region.wanted, hgd])]
  exact wp_append_own w s x t ho base e i z size bytes ht hi hz hsize hby hzs hsz v n xs hs hown ad m c news hx hl hnews h1 h63 hbytes hbase h

/-- A book: its block, its two rows of lists, the lists themselves (each reads as l), no two of those kept in one block. -/
def Bk (w : World) (B p h : Nat) (xs ys : List Value) (l : List UInt8) : Prop :=
  B ≤ p ∧ ys.length = xs.length ∧
  (∃ A Y, w.heap[p]? = some (.cells #[A, Y, .int .i64 h, .bool false] 51 (0, 0)) ∧ w.ownsRow B 27 1 A xs.length xs ∧ w.ownsRow B 27 1 Y xs.length ys ∧ (A.ownBlock = none ∨ A.ownBlock ≠ Y.ownBlock)) ∧
  (∀ x ∈ xs, w.ownsRow B 5 1 x l.length (Lib.byteCells l)) ∧ (∀ y ∈ ys, w.ownsRow B 5 1 y l.length (Lib.byteCells l)) ∧
  xs.Pairwise (fun a b => a.ownBlock ≠ b.ownBlock)

end Go.Proofs.YtjmkccnjjofmeaaGreatDoor

namespace Go.Proofs.YtjmkccnjjofmeaaGreatDoor
open Go.RowKit

theorem Bk.below {w w' : World} {B p h : Nat} {xs ys : List Value} {l : List UInt8} (hbk : Bk w B p h xs ys l) (hb : Below w.heap.size w w') : Bk w' B p h xs ys l := by
  obtain ⟨hBp, hyl, ⟨A, Y, hp, hA, hY, hAY⟩, hxs, hys, hpw⟩ := hbk
  have hlt : p < w.heap.size := by
    rcases Nat.lt_or_ge p w.heap.size with h' | h'
    · exact h'
    · simp [Array.getElem?_eq_none h'] at hp
  refine ⟨hBp, hyl, ⟨A, Y, (hb.block p hlt).trans hp, ownsRow_same hA fun k hk => hb.block k (hA.lt k hk).2, ownsRow_same hY fun k hk => hb.block k (hY.lt k hk).2, hAY⟩, fun x hx => ?_, fun y hy => ?_, hpw⟩
  · exact ownsRow_same (hxs x hx) fun k hk => hb.block k ((hxs x hx).lt k hk).2
  · exact ownsRow_same (hys y hy) fun k hk => hb.block k ((hys y hy).lt k hk).2

theorem setCell_idle {w : World} {p i : Nat} {cs : Array Value} {T : TypeId} {v : Value} (hp : w.heap[p]? = some (.cells cs T (0, 0))) (h : cs.setIfInBounds i v = cs) (q : Addr) : (w.setCell ⟨p, i, none⟩ v).cell? q = w.cell? q := by
  refine World.cell?_of_block ?_
  by_cases hq : q.block = p
  · rw [hq, heap_setCell_same w p i cs T v hp, h, hp]
  · exact heap_setCell_other w ⟨p, i, none⟩ q.block v hq

/-- The book's own bad is written anew as it was: nothing turns. -/
theorem Bk.same {w : World} {B p h : Nat} {xs ys : List Value} {l : List UInt8} (hbk : Bk w B p h xs ys l) : Bk (w.setCell ⟨p, 3, none⟩ (.bool false)) B p h xs ys l := by
  obtain ⟨hBp, hyl, ⟨A, Y, hp, hA, hY, hAY⟩, hxs, hys, hpw⟩ := hbk
  have hk : ∀ {e : TypeId} {size : Nat} {v : Value} {n : Nat} {us : List Value}, w.ownsRow B e size v n us → 51 ≠ e → (w.setCell ⟨p, 3, none⟩ (.bool false)).ownsRow B e size v n us := fun hv hne => ownsRow_same hv fun k hk => heap_setCell_other w ⟨p, 3, none⟩ k _ (fun e => ownsRow_other hv hp hne (by rw [hk]; exact congrArg some e))
  exact ⟨hBp, hyl, ⟨A, Y, heap_setCell_same w p 3 _ _ _ hp, hk hA (by decide), hk hY (by decide), hAY⟩, fun x hx => hk (hxs x hx) (by decide), fun y hy => hk (hys y hy) (by decide), hpw⟩

end Go.Proofs.YtjmkccnjjofmeaaGreatDoor

namespace Go.Proofs.YtjmkccnjjofmeaaGreatDoor
open Go.RowKit

def gOf : Value → Nat
  | .slice (some a) _ _ => a.block
  | _ => 0

def nOf : Value → Nat
  | .slice _ n _ => n
  | _ => 0

def cOf : Value → Nat
  | .slice _ _ c => c
  | _ => 0

/-- A list that can be written full: the head of a block of its own, of a modest room. -/
def Fm (B : Nat) (x : Value) : Prop := x = .slice (some ⟨gOf x, 0, none⟩) (nOf x) (cOf x) ∧ nOf x ≤ cOf x ∧ cOf x ≤ 1000000 ∧ B ≤ gOf x

/-- The lists ahead of number t are written full with their marks, and so is list t as far as place m. -/
def Ap (w : World) (B p h : Nat) (A : Value) (xs : List Value) (t m : Nat) : Prop :=
  (∃ Y, w.heap[p]? = some (.cells #[A, Y, .int .i64 h, .bool false] 51 (0, 0))) ∧ w.ownsRow B 27 1 A xs.length xs ∧
  ∀ i (hi : i < xs.length), ∃ cur, w.heap[gOf xs[i]]? = some (.cells cur 5 (0, 0)) ∧ cur.size = cOf xs[i] ∧ ∀ j, j < cOf xs[i] → (i < t ∨ (i = t ∧ j < m)) → cur[j]? = some (.int .u8 (markI i j))

theorem Ap.mark {w : World} {B p h : Nat} {A : Value} {xs : List Value} {t m : Nat} (hap : Ap w B p h A xs t m) (ht : t < xs.length) (hfm : ∀ x ∈ xs, Fm B x) (hpw : xs.Pairwise (fun a b => a.ownBlock ≠ b.ownBlock)) :
    Ap (w.setCell ⟨gOf xs[t], m, none⟩ (.int .u8 (markI t m))) B p h A xs t (m + 1) := by
  obtain ⟨⟨Y, hp⟩, hA, hrows⟩ := hap
  obtain ⟨cur, hc, hcs, hmk⟩ := hrows t ht
  refine ⟨⟨Y, ?_⟩, ?_, ?_⟩
  · rw [heap_setCell_other w _ p _ (fun e => ?_), hp]
    simp only at e
    rw [← e, hp] at hc
    injection hc with hc
    injection hc with _ hc _
    exact absurd hc (by decide)
  · refine ownsRow_same hA fun k hk => heap_setCell_other w _ k _ (fun e => ?_)
    simp only at e
    subst e
    exact ownsRow_other hA hc (by decide) hk
  · intro i hi
    by_cases hit : i = t
    · subst hit
      refine ⟨cur.setIfInBounds m (.int .u8 (markI i m)), heap_setCell_same w _ m cur _ _ hc, by simpa using hcs, fun j hj hor => ?_⟩
      by_cases hjm : j = m
      · subst hjm
        simp [hcs, hj]
      · rw [Array.getElem?_setIfInBounds_ne (fun e => hjm e.symm)]
        exact hmk j hj (.inr ⟨rfl, by omega⟩)
    · obtain ⟨cur', hc', hcs', hmk'⟩ := hrows i hi
      refine ⟨cur', ?_, hcs', fun j hj hor => hmk' j hj (by omega)⟩
      rw [heap_setCell_other w _ _ _ (fun e => ?_), hc']
      simp only at e
      have h1 := (hfm xs[i] (List.getElem_mem hi)).1
      have h2 := (hfm xs[t] (List.getElem_mem ht)).1
      have hne : xs[i].ownBlock ≠ xs[t].ownBlock := by
        rcases Nat.lt_or_gt_of_ne hit with hl | hl
        · exact (List.pairwise_iff_getElem.1 hpw) i t hi ht hl
        · exact fun e => (List.pairwise_iff_getElem.1 hpw) t i ht hi hl e.symm
      rw [h1, h2] at hne
      exact hne (by simp [Value.ownBlock, e])

theorem Ap.next {w : World} {B p h : Nat} {A : Value} {xs : List Value} {t m : Nat} (hap : Ap w B p h A xs t m) (ht : t < xs.length) (hm : cOf xs[t] ≤ m) : Ap w B p h A xs (t + 1) 0 := by
  obtain ⟨hp, hA, hrows⟩ := hap
  refine ⟨hp, hA, fun i hi => ?_⟩
  obtain ⟨cur, hc, hcs, hmk⟩ := hrows i hi
  refine ⟨cur, hc, hcs, fun j hj hor => hmk j hj ?_⟩
  by_cases hit : i = t
  · subst hit
    exact .inr ⟨rfl, by omega⟩
  · left; omega

end Go.Proofs.YtjmkccnjjofmeaaGreatDoor

namespace Go.Proofs.YtjmkccnjjofmeaaGreatDoor
open Go.RowKit

set_option maxHeartbeats 400000 in
theorem mark_g (i j : Nat) (w : World) (hi : i ≤ 100000) (hj : j ≤ 9223372036854775807) :
    Calls Tryz.prog 20 #[.int .i64 i, .int .i64 j] w fun e w' => e = .returned (.int .u8 (markI i j)) ∧ w = w' := by
  obtain ⟨r, hr⟩ : ∃ r : Nat, r = j % 3 := ⟨_, rfl⟩
  have h3 : (j : Int) % 3 = (r : Int) := by omega
  have hr3 : r ≤ 2 := by omega
  have HR := hid0 hr
  clear hr
  go_enter Tryz.func20, Tryz.ntmps20
  go_wp2
  go_ret
  refine ⟨?_, rfl⟩
  unfold markI
  rw [← HR.out]
  rfl

/-- None of the first c places is frozen. -/
def NF (fz : Nat × Nat) (c : Nat) : Prop := ∀ j, j < c → ¬ (fz.1 ≤ j ∧ j < fz.2)

theorem NF.out {w : World} {b : Nat} {cs : Array Value} {T : TypeId} {fz : Nat × Nat} {c : Nat} (hb : w.heap[b]? = some (.cells cs T fz)) (h : NF fz c) (j : Nat) (hj : j < c) : w.frozen? ⟨b, j, none⟩ = false := by
  have := h j hj
  simp [World.frozen?, hb]
  omega

/-- A list that can be written full: the head of a block of its own. -/
def Fx (B : Nat) (x : Value) : Prop := x = .slice (some ⟨gOf x, 0, none⟩) (nOf x) (cOf x) ∧ nOf x ≤ cOf x ∧ cOf x ≤ 9223372036854775807 ∧ B ≤ gOf x

/-- The row of block g holds these values from place o on. -/
def LvA (w : World) (g o : Nat) (xs : List Value) : Prop := ∃ cs fz, w.heap[g]? = some (.cells cs 27 fz) ∧ ∀ j u, xs[j]? = some u → cs[o + j]? = some u

theorem LvA.cell {w : World} {g o : Nat} {xs : List Value} (h : LvA w g o xs) (j : Nat) (u : Value) (hu : xs[j]? = some u) : w.cell? ⟨g, o + j, none⟩ = some u := by
  obtain ⟨cs, fz, hb, hc⟩ := h
  rw [Lib.cell_of_heap hb]
  exact hc j u hu

theorem LvA.same {w w' : World} {g o : Nat} {xs : List Value} (h : LvA w g o xs) (hk : w'.heap[g]? = w.heap[g]?) : LvA w' g o xs := by
  obtain ⟨cs, fz, hb, hc⟩ := h
  exact ⟨cs, fz, hk.trans hb, hc⟩

theorem LvA.lt {w : World} {g o : Nat} {xs : List Value} (h : LvA w g o xs) : g < w.heap.size := by
  obtain ⟨cs, fz, hb, hc⟩ := h
  exact (Array.getElem?_eq_some_iff.1 hb).1

theorem LvA.other {w : World} {g o p : Nat} {xs : List Value} {cs : Array Value} {T : TypeId} {fr : Nat × Nat} (h : LvA w g o xs) (hp : w.heap[p]? = some (.cells cs T fr)) (hne : T ≠ 27) : g ≠ p := fun e => by
  obtain ⟨cs', fz, hb, hc⟩ := h
  rw [e, hp] at hb
  injection hb with hb
  injection hb with _ hb _
  exact hne hb

/-- The lists ahead of number t are written full with their marks, and so is list t as far as place m. -/
def Av (w : World) (p : Nat) (h : Int) (gA oA cA : Nat) (xs : List Value) (t m : Nat) : Prop :=
  (∃ Y, w.heap[p]? = some (.cells #[.slice (some ⟨gA, oA, none⟩) xs.length cA, Y, .int .i64 h, .bool false] 51 (0, 0))) ∧ LvA w gA oA xs ∧
  ∀ i (hi : i < xs.length), ∃ cur fz, w.heap[gOf xs[i]]? = some (.cells cur 5 fz) ∧ cOf xs[i] ≤ cur.size ∧ NF fz (cOf xs[i]) ∧ ∀ j, j < cOf xs[i] → (i < t ∨ (i = t ∧ j < m)) → cur[j]? = some (.int .u8 (markI i j))

theorem Av.mark {w : World} {B p : Nat} {h : Int} {gA oA cA : Nat} {xs : List Value} {t m : Nat} (hap : Av w p h gA oA cA xs t m) (ht : t < xs.length) (hfm : ∀ x ∈ xs, Fx B x) (hpw : xs.Pairwise (fun a b => a.ownBlock ≠ b.ownBlock)) :
    Av (w.setCell ⟨gOf xs[t], m, none⟩ (.int .u8 (markI t m))) p h gA oA cA xs t (m + 1) := by
  obtain ⟨⟨Y, hp⟩, hA, hrows⟩ := hap
  obtain ⟨cur, fz, hc, hcs, hnf, hmk⟩ := hrows t ht
  refine ⟨⟨Y, ?_⟩, ?_, ?_⟩
  · rw [heap_setCell_other w _ p _ (fun e => ?_), hp]
    simp only at e
    rw [← e, hp] at hc
    injection hc with hc
    injection hc with _ hc _
    exact absurd hc (by decide)
  · exact hA.same (heap_setCell_other w _ gA _ (hA.other hc (by decide)))
  · intro i hi
    by_cases hit : i = t
    · subst hit
      refine ⟨cur.setIfInBounds m (.int .u8 (markI i m)), fz, Lib.heap_setCell_same hc _, by simpa using hcs, hnf, fun j hj hor => ?_⟩
      by_cases hjm : j = m
      · subst hjm
        have : j < cur.size := by omega
        simp [this]
      · rw [Array.getElem?_setIfInBounds_ne (fun e => hjm e.symm)]
        exact hmk j hj (.inr ⟨rfl, by omega⟩)
    · obtain ⟨cur', fz', hc', hcs', hnf', hmk'⟩ := hrows i hi
      refine ⟨cur', fz', ?_, hcs', hnf', fun j hj hor => hmk' j hj (by omega)⟩
      rw [heap_setCell_other w _ _ _ (fun e => ?_), hc']
      simp only at e
      have h1 := (hfm xs[i] (List.getElem_mem hi)).1
      have h2 := (hfm xs[t] (List.getElem_mem ht)).1
      have hne : xs[i].ownBlock ≠ xs[t].ownBlock := by
        rcases Nat.lt_or_gt_of_ne hit with hl | hl
        · exact (List.pairwise_iff_getElem.1 hpw) i t hi ht hl
        · exact fun e => (List.pairwise_iff_getElem.1 hpw) t i ht hi hl e.symm
      rw [h1, h2] at hne
      exact hne (by simp [Value.ownBlock, e])

theorem Av.next {w : World} {p : Nat} {h : Int} {gA oA cA : Nat} {xs : List Value} {t m : Nat} (hap : Av w p h gA oA cA xs t m) (ht : t < xs.length) (hm : cOf xs[t] ≤ m) : Av w p h gA oA cA xs (t + 1) 0 := by
  obtain ⟨hp, hA, hrows⟩ := hap
  refine ⟨hp, hA, fun i hi => ?_⟩
  obtain ⟨cur, fz, hc, hcs, hnf, hmk⟩ := hrows i hi
  refine ⟨cur, fz, hc, hcs, hnf, fun j hj hor => hmk j hj ?_⟩
  by_cases hit : i = t
  · subst hit
    exact .inr ⟨rfl, by omega⟩
  · left; omega

/-- A list that was handed out: it reads l, and its room can be written. -/
def Rx (w : World) (B : Nat) (x : Value) (l : List UInt8) : Prop :=
  Fx B x ∧ nOf x = l.length ∧ ∃ cur fz, w.heap[gOf x]? = some (.cells cur 5 fz) ∧ cOf x ≤ cur.size ∧ NF fz (cOf x) ∧ ∀ j (hj : j < l.length), cur[j]? = some (.int .u8 (l[j].toNat : Int))

theorem Rx.same {w w' : World} {B : Nat} {x : Value} {l : List UInt8} (h : Rx w B x l) (hk : w'.heap[gOf x]? = w.heap[gOf x]?) : Rx w' B x l := by
  obtain ⟨h1, h2, cur, fz, hb, h3⟩ := h
  exact ⟨h1, h2, cur, fz, hk.trans hb, h3⟩

theorem Rx.lt {w : World} {B : Nat} {x : Value} {l : List UInt8} (h : Rx w B x l) : gOf x < w.heap.size := by
  obtain ⟨h1, h2, cur, fz, hb, h3⟩ := h
  exact (Array.getElem?_eq_some_iff.1 hb).1

theorem Rx.other {w : World} {B p : Nat} {x : Value} {l : List UInt8} {cs : Array Value} {T : TypeId} {fr : Nat × Nat} (h : Rx w B x l) (hp : w.heap[p]? = some (.cells cs T fr)) (hne : T ≠ 5) : gOf x ≠ p := fun e => by
  obtain ⟨h1, h2, cur, fz, hb, h3⟩ := h
  rw [e, hp] at hb
  injection hb with hb
  injection hb with _ hb _
  exact hne hb

theorem Rx.sl {w : World} {B : Nat} {x : Value} {l : List UInt8} (h : Rx w B x l) : SlB w x l := by
  obtain ⟨h1, h2, cur, fz, hb, h3, h4, h5⟩ := h
  rw [h1.1, h2]
  refine .inr ⟨_, _, rfl, fun j hj => ?_⟩
  rw [Addr.add_lit, Lib.cell_of_heap hb, Nat.zero_add]
  exact h5 j hj

theorem NewB.rx {B : Nat} {w : World} {v : Value} {l : List UInt8} (h : NewB B w v l) : Rx w B v l := by
  obtain ⟨g, cap, rfl, hg, h1, h2, h3⟩ := h
  refine ⟨⟨rfl, h1, by unfold maxLen at h2; exact h2, hg⟩, rfl, _, _, h3, ?_, ?_, fun j hj => ?_⟩
  · simp [bytesRow, cOf]; have := ba_size l; omega
  · intro j hj hh
    have hs : (bytesRow (ba l) cap).size = cap := by simp [bytesRow]; have := ba_size l; omega
    simp only [cOf] at hj
    rw [hs] at hh
    have := hh.1
    simp at this
    omega
  · rw [bytesRow_at (ba l) cap j (by simpa [ba] using hj)]
    simp [ba]

/-- What a book holds, its lists at any place of their row. -/
def Bv (w : World) (B p : Nat) (h : Int) (gA oA cA gY oY cY : Nat) (xs ys : List Value) (l : List UInt8) : Prop :=
  B ≤ p ∧ ys.length = xs.length ∧ w.heap[p]? = some (.cells #[.slice (some ⟨gA, oA, none⟩) xs.length cA, .slice (some ⟨gY, oY, none⟩) xs.length cY, .int .i64 h, .bool false] 51 (0, 0)) ∧
  LvA w gA oA xs ∧ LvA w gY oY ys ∧ (∀ x ∈ xs, Rx w B x l) ∧ (∀ y ∈ ys, w.ownsRow B 5 1 y l.length (Lib.byteCells l)) ∧ xs.Pairwise (fun a b => a.ownBlock ≠ b.ownBlock)

theorem Bv.keep {w w' : World} {B p : Nat} {h : Int} {gA oA cA gY oY cY : Nat} {xs ys : List Value} {l : List UInt8} (hbk : Bv w B p h gA oA cA gY oY cY xs ys l) (hp' : w'.heap[p]? = w.heap[p]?) (hk : ∀ k, k < w.heap.size → k ≠ p → w'.heap[k]? = w.heap[k]?) : Bv w' B p h gA oA cA gY oY cY xs ys l := by
  obtain ⟨hBp, hyl, hp, hA, hY, hxs, hys, hpw⟩ := hbk
  refine ⟨hBp, hyl, hp'.trans hp, hA.same (hk _ hA.lt (hA.other hp (by decide))), hY.same (hk _ hY.lt (hY.other hp (by decide))), fun x hx => (hxs x hx).same (hk _ (hxs x hx).lt ((hxs x hx).other hp (by decide))), fun y hy => ?_, hpw⟩
  exact ownsRow_same (hys y hy) fun k hk' => hk k ((hys y hy).lt k hk').2 (fun e => ownsRow_other (hys y hy) hp (by decide) (by rw [hk']; exact congrArg some e))

theorem Bv.below {w w' : World} {B p : Nat} {h : Int} {gA oA cA gY oY cY : Nat} {xs ys : List Value} {l : List UInt8} (hbk : Bv w B p h gA oA cA gY oY cY xs ys l) (hb : Below w.heap.size w w') : Bv w' B p h gA oA cA gY oY cY xs ys l :=
  hbk.keep (hb.block p (Array.getElem?_eq_some_iff.1 hbk.2.2.1).1) fun k hk _ => hb.block k hk

theorem Bv.same {w : World} {B p : Nat} {h : Int} {gA oA cA gY oY cY : Nat} {xs ys : List Value} {l : List UInt8} (hbk : Bv w B p h gA oA cA gY oY cY xs ys l) : Bv (w.setCell ⟨p, 3, none⟩ (.bool false)) B p h gA oA cA gY oY cY xs ys l :=
  hbk.keep ((heap_setCell_same w p 3 _ _ _ hbk.2.2.1).trans hbk.2.2.1.symm) fun k _ hne => heap_setCell_other w ⟨p, 3, none⟩ k _ hne

theorem Bv.av {w : World} {B p : Nat} {h : Int} {gA oA cA gY oY cY : Nat} {xs ys : List Value} {l : List UInt8} (hbk : Bv w B p h gA oA cA gY oY cY xs ys l) : Av w p h gA oA cA xs 0 0 := by
  obtain ⟨hBp, hyl, hp, hA, hY, hxs, hys, hpw⟩ := hbk
  refine ⟨⟨_, hp⟩, hA, fun i hi => ?_⟩
  obtain ⟨h1, h2, cur, fz, hb, h3, h4, h5⟩ := hxs xs[i] (List.getElem_mem hi)
  exact ⟨cur, fz, hb, h3, h4, fun j _ hor => by omega⟩

end Go.Proofs.YtjmkccnjjofmeaaGreatDoor

namespace Go.Proofs.YtjmkccnjjofmeaaGreatDoor
open Go.RowKit

set_option maxHeartbeats 2000000 in
set_option maxRecDepth 100000 in
theorem stays_g (B p : Nat) (h : Int) (gA oA cA gY oY cY : Nat) (xs ys : List Value) (l : List UInt8) (w : World) (hbk : Bv w B p h gA oA cA gY oY cY xs ys l) (hn : xs.length ≤ 3000) (hl : l.length ≤ 1000000) (hBw : B ≤ w.heap.size) :
    Calls Tryz.prog 39 #[.pointer (some ⟨p, 0, none⟩)] w fun e w' => e = .returned (.bool true) ∧ Bv w' B p h gA oA cA gY oY cY xs ys l ∧ Below B w w' := by
  go_enter Tryz.func39, Tryz.ntmps39
  go_wp2
  go_loopw [3] (fun i wr => ∃ k : Nat, k ≤ xs.length ∧ i = .int .i64 k ∧ Bv wr B p h gA oA cA gY oY cY xs ys l ∧ Below B w wr) (fun i _ => xs.length - (intOf i).toNat)
  case atStart => exact ⟨0, Nat.zero_le _, rfl, hbk, Below.refl _ _⟩
  case round =>
    obtain ⟨k, hk, rfl, hbr, hbw⟩ := hrel
    have HBR := hid hbr
    obtain ⟨hBp, hyl, hp, hA, hY, hxs, hys, hpw⟩ := hbr
    have c3 := cell_of_heapE hp 3 _ rfl
    have c0 := cell_of_heapE hp 0 _ rfl
    have c1 := cell_of_heapE hp 1 _ rfl
    by_cases hlt : k < xs.length
    · have hltI : (k : Int) < (xs.length : Int) := by omega
      -- the two rows and the two lists at k
      have hx := hxs xs[k] (List.getElem_mem hlt)
      have hy := hys (ys[k]'(by omega)) (List.getElem_mem _)
      have k1 := hA.cell k xs[k] (by simp [hlt])
      have k2 := hY.cell k (ys[k]'(by omega)) (by simp)
      generalize xs[k] = X at k1 hx
      generalize (ys[k]'(by omega)) = Z at k2 hy
      obtain ⟨xa, xn, xc, rfl⟩ : ∃ xa xn xc, X = .slice xa xn xc := ⟨_, _, _, hx.1.1⟩
      obtain ⟨ya, yn, yc, rfl⟩ := ownsRow_slice hy
      have hxS : SlB wr.drew (.slice xa xn xc) l := (hx.sl : SlB wr _ l)
      have hyS : SlB wr.drew (.slice ya yn yc) l := SlB.own hy
      have hplt : p < wr.heap.size := by
        rcases Nat.lt_or_ge p wr.heap.size with h' | h'
        · exact h'
        · simp [Array.getElem?_eq_none h'] at hp
      clear hx hy hxs hys hA hY hpw
      go_wp2
      go_region_held (fun wx => wx.cell? ⟨p, 0, none⟩ = some (.slice (some ⟨gA, oA, none⟩) xs.length cA) ∧ wx.cell? ⟨p, 1, none⟩ = some (.slice (some ⟨gY, oY, none⟩) xs.length cY) ∧ wx.cell? ⟨p, 3, none⟩ = some (.bool false) ∧ wx.cell? ⟨gA, oA + k, none⟩ = some (.slice xa xn xc) ∧ wx.cell? ⟨gY, oY + k, none⟩ = some (.slice ya yn yc)) (first | (refine ⟨(setCell_idle hp2 rfl _).trans d0, (setCell_idle hp2 rfl _).trans d1, (setCell_idle hp2 rfl _).trans d3, (setCell_idle hp2 rfl _).trans d4, (setCell_idle hp2 rfl _).trans d5⟩) | go_keep) (first | (go_at_call 17; refine (same_any _ _ _ _ _ _ l l wr.drew hxS hyS (by omega) (by omega)).mono ?_; rintro e w2 ⟨rfl, hb2x⟩; have hb2 : Below wr.heap.size wr w2 := (Below.refl _ wr).drew.trans hb2x; have hp2 := (hb2.block p hplt).trans hp; have f3 := Lib.frozen_of_heap ((hb2.block p hplt).trans hp) 3; have d3 := cell_of_heapE ((hb2.block p hplt).trans hp) 3 _ rfl; have d0 := cell_of_heapE ((hb2.block p hplt).trans hp) 0 _ rfl; have d1 := cell_of_heapE ((hb2.block p hplt).trans hp) 1 _ rfl; have d4 := (hb2.cell (World.block_lt_of_cell? wr _ k1)).trans k1; have d5 := (hb2.cell (World.block_lt_of_cell? wr _ k2)).trans k2))
      all_goals
        go_wp2
        go_roundw
        case rel =>
          exact ⟨k + 1, by omega, by go_num, (HBR.out.below hb2).same, (hbw.trans (hb2.mono (by have := hbw.size; omega))).setCell (p := ⟨p, 3, none⟩) hBp _⟩
        case measure => simp [intOf]; omega
    · have hltI : decide ((k : Int) < (xs.length : Int)) = false := by simp; omega
      go_wp2
      go_ret
      exact ⟨rfl, HBR.out, hbw⟩

set_option maxHeartbeats 4000000 in
set_option maxRecDepth 100000 in
theorem apart_g (B p : Nat) (h : Int) (gA oA cA gY oY cY : Nat) (xs ys : List Value) (l : List UInt8) (w : World) (hbk : Bv w B p h gA oA cA gY oY cY xs ys l) (hn : xs.length ≤ 3000) (hl : l.length ≤ 1000000) (hBw : B ≤ w.heap.size) :
    Calls Tryz.prog 19 #[.pointer (some ⟨p, 0, none⟩), .func (.func 20) #[] #[]] w fun e w' => e = .returned (.bool true) ∧ Below B w w' := by
  go_enter Tryz.func19, Tryz.ntmps19
  go_wp2_with fail
  refine (stays_g B p h gA oA cA gY oY cY xs ys l w hbk hn hl hBw).mono ?_
  rintro e w1 ⟨rfl, hbk1, hb1⟩
  have hap1 := hbk1.av
  have hfm : ∀ x ∈ xs, Fx B x := fun x hx => (hbk1.2.2.2.2.2.1 x hx).1
  have hBp := hbk1.1
  have hpw := hbk1.2.2.2.2.2.2.2
  clear hbk hbk1
  have HAP := hid hap1
  clear hap1
  go_wp2
  go_loopw [5] (fun i wr => ∃ k : Nat, k ≤ xs.length ∧ i = .int .i64 k ∧ Av wr p h gA oA cA xs k 0 ∧ Below B w wr) (fun i _ => xs.length - (intOf i).toNat)
  case atStart => exact ⟨0, Nat.zero_le _, rfl, HAP.out, hb1⟩
  case round =>
    obtain ⟨k, hk, rfl, hap, hbw⟩ := hrel
    have HA1 := hid hap
    obtain ⟨⟨Y, hp⟩, hA, hrows⟩ := hap
    have c0 := cell_of_heapE hp 0 _ rfl
    by_cases hlt : k < xs.length
    · have hltI : (k : Int) < (xs.length : Int) := by omega
      have hF := hfm xs[k] (List.getElem_mem hlt)
      have k1 := hA.cell k xs[k] (by simp [hlt])
      rw [hF.1] at k1
      obtain ⟨G, hG⟩ : ∃ G, G = gOf xs[k] := ⟨_, rfl⟩
      obtain ⟨N, hN⟩ : ∃ N, N = nOf xs[k] := ⟨_, rfl⟩
      obtain ⟨C, hC⟩ : ∃ C, C = cOf xs[k] := ⟨_, rfl⟩
      have hb : N ≤ C ∧ C ≤ 9223372036854775807 ∧ B ≤ G := by rw [hG, hN, hC]; exact hF.2
      rw [← hG, ← hN, ← hC] at k1
      have HG := hid hG
      have HC := hid hC
      obtain ⟨hb1, hb2, hb3⟩ := hb
      clear hG hN hC hF hA hrows hp
      go_wp2
      go_quiet (fail)
      go_wp2
      go_loopw [7] (fun j wq => ∃ m : Nat, m ≤ C ∧ j = .int .i64 m ∧ Av wq p h gA oA cA xs k m ∧ Below B w wq) (fun j _ => C - (intOf j).toNat)
      case atStart => exact ⟨0, Nat.zero_le _, rfl, HA1.out, below_drewN hbw _⟩
      case round =>
        obtain ⟨m, hm, rfl, hap2, hbq⟩ := hrel
        have HA2 := hid hap2
        by_cases hmlt : m < C
        · have hmI : (m : Int) < (C : Int) := by omega
          obtain ⟨cur, fz, hcur, hcs, hnf, _⟩ := hap2.2.2 k hlt
          rw [← HG.out] at hcur
          rw [← HC.out] at hcs hnf
          obtain ⟨v0, hv0⟩ : ∃ v0, cur[m]? = some v0 := ⟨cur[m]'(by omega), by simp⟩
          have q1 := cell_of_heapE hcur m v0 hv0
          have q2 := NF.out hcur hnf m hmlt
          clear hap2 hcur hcs hv0 hnf
          go_wp2_with (go_at_call 20; refine (mark_g k m _ (by omega) (by omega)).mono ?_; rintro e w' ⟨rfl, rfl⟩)
          go_roundw
          case rel =>
            refine ⟨m + 1, by omega, by go_num, ?_, hbq.setCell (p := ⟨G, m, none⟩) hb3 _⟩
            rw [HG.out]
            exact HA2.out.mark hlt hfm hpw
          case measure => simp [intOf]; omega
        · have hmI : decide ((m : Int) < (C : Int)) = false := by simp; omega
          clear hap2
          go_wp2
          go_roundw
          case rel => exact ⟨k + 1, by omega, by go_num, HA2.out.next hlt (by rw [← HC.out]; omega), hbq⟩
          case measure => simp [intOf]; omega
    · have hltI : decide ((k : Int) < (xs.length : Int)) = false := by simp; omega
      obtain rfl : k = xs.length := by omega
      clear hA hrows hp
      go_wp2
      go_loopw [8] (fun i wq => ∃ k : Nat, k ≤ xs.length ∧ i = .int .i64 k ∧ Av wq p h gA oA cA xs xs.length 0 ∧ Below B w wq) (fun i _ => xs.length - (intOf i).toNat)
      case atStart => exact ⟨0, Nat.zero_le _, rfl, HA1.out, hbw⟩
      case round =>
        obtain ⟨k, hk, rfl, hap, hbw2⟩ := hrel
        have HA2 := hid hap
        obtain ⟨⟨Y, hp⟩, hA, hrows⟩ := hap
        have c0 := cell_of_heapE hp 0 _ rfl
        by_cases hlt : k < xs.length
        · have hltI : (k : Int) < (xs.length : Int) := by omega
          have hF := hfm xs[k] (List.getElem_mem hlt)
          have k1 := hA.cell k xs[k] (by simp [hlt])
          rw [hF.1] at k1
          obtain ⟨G, hG⟩ : ∃ G, G = gOf xs[k] := ⟨_, rfl⟩
          obtain ⟨N, hN⟩ : ∃ N, N = nOf xs[k] := ⟨_, rfl⟩
          obtain ⟨C, hC⟩ : ∃ C, C = cOf xs[k] := ⟨_, rfl⟩
          have hb : N ≤ C ∧ C ≤ 9223372036854775807 ∧ B ≤ G := by rw [hG, hN, hC]; exact hF.2
          rw [← hG, ← hN, ← hC] at k1
          have HG := hid hG
          have HC := hid hC
          obtain ⟨hb1, hb2, hb3⟩ := hb
          clear hG hN hC hF hA hrows hp
          go_wp2
          go_quiet (fail)
          go_wp2
          go_loopw [10] (fun j wz => ∃ m : Nat, m ≤ C ∧ j = .int .i64 m ∧ Av wz p h gA oA cA xs xs.length 0 ∧ Below B w wz) (fun j _ => C - (intOf j).toNat)
          case atStart => exact ⟨0, Nat.zero_le _, rfl, HA2.out, below_drewN hbw2 _⟩
          case round =>
            obtain ⟨m, hm, rfl, hap3, hbz⟩ := hrel
            have HA3 := hid hap3
            by_cases hmlt : m < C
            · have hmI : (m : Int) < (C : Int) := by omega
              obtain ⟨cur, fz, hcur, hcs, hnf, hmk⟩ := hap3.2.2 k hlt
              have hv0 := hmk m (by rw [← HC.out]; exact hmlt) (.inl hlt)
              rw [← HG.out] at hcur
              have q1 := cell_of_heapE hcur m _ hv0
              clear hap3 hcur hcs hv0 hmk hnf
              have HM := mark_g k m
              generalize markI k m = M at *
              go_wp2
              go_region_held (fun wx => wx.cell? ⟨G, m, none⟩ = some (.int .u8 M)) (go_keep) (first | (go_at_call 20; refine (HM _ (by omega) (by omega)).mono ?_; rintro e w' ⟨rfl, rfl⟩))
              go_wp2
              go_roundw
              case rel => exact ⟨m + 1, by omega, by go_num, HA3.out, hbz.drew⟩
              case measure => simp [intOf]; omega
            · have hmI : decide ((m : Int) < (C : Int)) = false := by simp; omega
              clear hap3
              go_wp2
              go_roundw
              case rel => exact ⟨k + 1, by omega, by go_num, HA3.out, hbz⟩
              case measure => simp [intOf]; omega
        · have hltI : decide ((k : Int) < (xs.length : Int)) = false := by simp; omega
          have f0 := Lib.frozen_of_heap hp 0
          have f1 := Lib.frozen_of_heap hp 1
          have f2 := Lib.frozen_of_heap hp 2
          have c1 := cell_of_heapE hp 1 _ rfl
          have c2 := cell_of_heapE hp 2 _ rfl
          clear hA hrows hp
          go_wp2
          go_ret
          exact ⟨rfl, ((hbw2.setCell (p := ⟨p, 0, none⟩) hBp _).setCell (p := ⟨p, 1, none⟩) hBp _).setCell (p := ⟨p, 2, none⟩) hBp _⟩

end Go.Proofs.YtjmkccnjjofmeaaGreatDoor

namespace Go.Proofs.YtjmkccnjjofmeaaGreatDoor
open Go.RowKit

/-- What a book holds that can be added to. -/
def Bo (w : World) (B p : Nat) (h : Int) (xs ys : List Value) (l : List UInt8) : Prop :=
  B ≤ p ∧ ys.length = xs.length ∧
  (∃ A Y, w.heap[p]? = some (.cells #[A, Y, .int .i64 h, .bool false] 51 (0, 0)) ∧ w.ownsRow B 27 1 A xs.length xs ∧ w.ownsRow B 27 1 Y xs.length ys ∧ (A.ownBlock = none ∨ A.ownBlock ≠ Y.ownBlock)) ∧
  (∀ x ∈ xs, Rx w B x l) ∧ (∀ y ∈ ys, w.ownsRow B 5 1 y l.length (Lib.byteCells l)) ∧
  xs.Pairwise (fun a b => a.ownBlock ≠ b.ownBlock)

set_option maxHeartbeats 2000000 in
set_option maxRecDepth 100000 in
theorem keep_0 (B p : Nat) (h : Int) (xs ys : List Value) (l : List UInt8) (g cap : Nat) (w : World) (hbk : Bo w B p h xs ys l) (hx : Rx w B (.slice (some ⟨g, 0, none⟩) l.length cap) l)
    (hne : ∀ x ∈ xs, x.ownBlock ≠ some g) (hl : l.length ≤ 1000000) (hn0 : xs.length = 0) (hBw : B ≤ w.heap.size) :
    Calls Tryz.prog 18 #[.pointer (some ⟨p, 0, none⟩), .slice (some ⟨g, 0, none⟩) l.length cap] w fun e w' => e = .returned (.tuple #[]) ∧ (∃ H y, Bo w' B p H (xs ++ [.slice (some ⟨g, 0, none⟩) l.length cap]) (ys ++ [y]) l) ∧ Below B w w' := by
  have hn : xs.length ≤ 1 := by omega
  have HN0 := hid0 hn0
  clear hn0
  obtain ⟨i0, hi, hz0, hz1, hz2⟩ := info_parts infoBytes
  obtain ⟨j0, ji, jz0, jz1, jz2⟩ := info_parts infoByte
  obtain ⟨hBp, hyl, ⟨A, Y, hp, hA, hY, hAY⟩, hxs, hys, hpw⟩ := hbk
  have c0 : w.cell? ⟨p, 0, none⟩ = some A := by rw [Lib.cell_of_heap hp]; rfl
  have hlt : p < w.heap.size := by
    rcases Nat.lt_or_ge p w.heap.size with h' | h'
    · exact h'
    · simp [Array.getElem?_eq_none h'] at hp
  go_enter Tryz.func18, Tryz.ntmps18
  go_wp2_with (at_builtin; refine wpList_append_where _ rfl _ _ 49 rfl B 27 i0 (.slice none 0 0) 1 24 Tryz.underlying49 hi hz0 hz1 hz2 rfl (by decide) A xs.length xs rfl (hA.alloc _) ⟨w.heap.size, 0, none⟩ 1 1 [.slice (some ⟨g, 0, none⟩) l.length cap] rfl rfl ?c1 ?c2 ?c3 ?c4 ?c5 (by decide) ?_)
  case c1 =>
    intro j u hj
    match j, hj with
    | 0, hj => simp at hj; subst hj; simp [Addr.add]
  case c2 => intro u hu; simp at hu; subst hu; rfl
  case c3 => unfold maxLen; omega
  case c4 => omega
  case c5 => simp; omega
  intro AA w2 hAA hgrow hwhere
  obtain ⟨g1, k1, rfl, hw1⟩ := hwhere
  have hpA : A.ownBlock ≠ some p := ownsRow_other hA hp (by decide)
  have hb2 : w2.heap[p]? = some (.cells #[A, Y, .int .i64 h, .bool false] 51 (0, 0)) := by
    rw [hgrow.block p (by simp; omega) (fun e => hpA e.symm), Lib.alloc_old w _ p hlt]
    exact hp
  have d0 : w2.cell? ⟨p, 0, none⟩ = some A := by rw [Lib.cell_of_heap hb2]; rfl
  have f0 : w2.frozen? ⟨p, 0, none⟩ = false := Lib.frozen_of_heap hb2 0
  have hpA' : (Value.slice (some ⟨g1, 0, none⟩) (xs.length + 1) k1).ownBlock ≠ some p := ownsRow_other hAA hb2 (by decide)
  -- the world behind the first statement
  have hold : ∀ k, k < w.heap.size → some k ≠ A.ownBlock → k ≠ p → (w2.setCell ⟨p, 0, none⟩ (.slice (some ⟨g1, 0, none⟩) (xs.length + 1) k1)).heap[k]? = w.heap[k]? := by
    intro k hk hkA hkp
    rw [heap_setCell_other w2 ⟨p, 0, none⟩ k (.slice (some ⟨g1, 0, none⟩) (xs.length + 1) k1) hkp, hgrow.block k (by simp; omega) hkA, Lib.alloc_old w _ k hk]
  have hb3 : Below B w (w2.setCell ⟨p, 0, none⟩ (.slice (some ⟨g1, 0, none⟩) (xs.length + 1) k1)) := (((Below.refl B w).alloc hBw _).grown hgrow (by simp; omega) (fun k hk => (hA.lt k hk).1)).setCell (p := ⟨p, 0, none⟩) hBp _
  have hp3 : (w2.setCell ⟨p, 0, none⟩ (.slice (some ⟨g1, 0, none⟩) (xs.length + 1) k1)).heap[p]? = some (.cells #[(.slice (some ⟨g1, 0, none⟩) (xs.length + 1) k1), Y, .int .i64 h, .bool false] 51 (0, 0)) := heap_setCell_same w2 p 0 _ _ (.slice (some ⟨g1, 0, none⟩) (xs.length + 1) k1) hb2
  have hA3 : (w2.setCell ⟨p, 0, none⟩ (.slice (some ⟨g1, 0, none⟩) (xs.length + 1) k1)).ownsRow B 27 1 (.slice (some ⟨g1, 0, none⟩) (xs.length + 1) k1) (xs.length + 1) (xs ++ [.slice (some ⟨g, 0, none⟩) l.length cap]) := ownsRow_same hAA fun k hk => heap_setCell_other w2 ⟨p, 0, none⟩ k (.slice (some ⟨g1, 0, none⟩) (xs.length + 1) k1) (fun e => hpA' (by rw [hk]; exact congrArg some e))
  have hYp : Y.ownBlock ≠ some p := ownsRow_other hY hp (by decide)
  have hY3 : (w2.setCell ⟨p, 0, none⟩ (.slice (some ⟨g1, 0, none⟩) (xs.length + 1) k1)).ownsRow B 27 1 Y xs.length ys := ownsRow_same hY fun k hk => hold k (hY.lt k hk).2 (fun e => by rcases hAY with h1 | h1; (rw [h1] at e; cases e); exact h1 (by rw [hk]; exact e.symm)) (fun e => hYp (by rw [hk]; exact congrArg some e))
  have hbytes : ∀ v, w.ownsRow B 5 1 v l.length (Lib.byteCells l) → (w2.setCell ⟨p, 0, none⟩ (.slice (some ⟨g1, 0, none⟩) (xs.length + 1) k1)).ownsRow B 5 1 v l.length (Lib.byteCells l) := fun v hv => ownsRow_same hv fun k hk => by
    obtain ⟨cur, hcur⟩ := ownsRow_kind hv k hk
    refine hold k (hv.lt k hk).2 (fun e => ownsRow_other hA hcur (by decide) e.symm) (fun e => ownsRow_other hv hp (by decide) (by rw [hk]; exact congrArg some e))
  have hbytesR : ∀ v, Rx w B v l → Rx (w2.setCell ⟨p, 0, none⟩ (.slice (some ⟨g1, 0, none⟩) (xs.length + 1) k1)) B v l := fun v hv => by
    obtain ⟨cur, fz, hcur, _⟩ := hv.2.2
    exact hv.same (hold (gOf v) hv.lt (fun e => ownsRow_other hA hcur (by decide) e.symm) (hv.other hp (by decide)))
  have hA'Y : (Value.slice (some ⟨g1, 0, none⟩) (xs.length + 1) k1).ownBlock ≠ Y.ownBlock := by
    intro e
    have e' : Y.ownBlock = some g1 := e.symm
    rcases hw1 with hw | hw
    · rcases hAY with h1 | h1
      · rw [h1] at hw; cases hw
      · exact h1 (by rw [hw, e'])
    · have := (hY.lt g1 e').2
      simp at hw
      omega
  go_wp2
  obtain ⟨w3, hw3⟩ : ∃ w3, w3 = w2.setCell ⟨p, 0, none⟩ (.slice (some ⟨g1, 0, none⟩) (xs.length + 1) k1) := ⟨_, rfl⟩
  rw [← hw3] at hold hb3 hp3 hA3 hY3 hbytes hbytesR ⊢
  clear hw3 hold hw1 hgrow d0 f0 hb2 hAA c0 hpA
  have hxs3 := fun x hx => hbytesR x (hxs x hx)
  have hys3 := fun x hx => hbytes x (hys x hx)
  have hx3 := hbytesR _ hx
  have hxc3 : ∀ j u, (Lib.byteCells l)[j]? = some u → w3.cell? ((⟨g, 0, none⟩ : Addr).add j) = some u := fun j u hu => by
    obtain ⟨_, _, cur, fz, hcur, _, _, hc⟩ := hx3
    have hj : j < l.length := by
      have := (List.getElem?_eq_some_iff.1 hu).1
      simpa [Lib.byteCells] using this
    have hb := hc j hj
    have hcur' : w3.heap[g]? = some (.cells cur 5 fz) := hcur
    rw [Addr.add_lit, Lib.cell_of_heap hcur', Nat.zero_add, hb]
    simp [Lib.byteCells, hj] at hu
    rw [hu]
  clear hbytes hbytesR hxs hys hx hY hA hAY
  have c1 : w3.cell? ⟨p, 1, none⟩ = some Y := by rw [Lib.cell_of_heap hp3]; rfl
  have hbs := hb3.size
  have hll : l.length ≤ cap := hx3.1.2.1
  have hlt3 : p < w3.heap.size := by omega
  have hY3p : Y.ownBlock ≠ some p := hYp
  go_region_law (first | (refine step_append_own0 rfl (.const (.slice none 0 0)) (.tmp 19) 27 rfl B 5 j0 (.int .u8 0) 1 1 Tryz.underlying27 ji jz0 jz1 jz2 rfl (by decide) (.slice none 0 0) 0 [] rfl (World.ownsRow_nil _ _ _ _) ⟨g, 0, none⟩ l.length cap (Lib.byteCells l) rfl (by simp [Lib.byteCells]) (by exact hxc3) (by exact bytes_oneC l) (by unfold maxLen; omega) (by omega) (by simp; omega) ?_; intro y w4 hy4 hgrow4 hnil4; obtain ⟨yo, yn, yc, rfl⟩ := ownsRow_slice hy4; have hY4 := ownsRow_same hY3 (fun k hk => hgrow4.block k (hY3.lt k hk).2 (by simp [Value.ownBlock])); have hp4 := (hgrow4.block p hlt3 (by simp [Value.ownBlock])).trans hp3; have hs4 := hgrow4.size; have e4 := cell_of_heapE hp4 1 Y rfl; have e4b : (w4.alloc (.cells #[.slice yo yn yc] 27)).cell? ⟨p, 1, none⟩ = some Y := cell_of_heapE ((Lib.alloc_old w4 _ p (by simp at hs4; omega)).trans hp4) 1 Y rfl) | (refine step_append_where rfl (.tmp 18) (.tmp 21) 49 rfl B 27 i0 (.slice none 0 0) 1 24 Tryz.underlying49 hi hz0 hz1 hz2 rfl (by decide) Y xs.length ys rfl (by exact hY4.alloc _) ⟨w4.heap.size, 0, none⟩ 1 1 [.slice yo yn yc] rfl rfl (by intro j u hj; match j, hj with | 0, hj => simp at hj; subst hj; simp [Addr.add]) (by intro u hu; simp at hu; subst hu; rfl) (by unfold maxLen; omega) (by omega) (by simp at hs4 ⊢; omega) (by decide) ?_; intro YY w5 hY5 hgrow5 hwh; obtain ⟨g2, k2, rfl, hw2⟩ := hwh; have hp5 := (hgrow5.block p (by simp at hs4 ⊢; omega) (fun e => hY3p e.symm)).trans ((Lib.alloc_old w4 _ p (by simp at hs4; omega)).trans hp4); have e1 := cell_of_heapE hp5 1 Y rfl; have f1 := Lib.frozen_of_heap hp5 1))
  all_goals
    have hb5 : Below B w w5 := ((hb3.drew.grown hgrow4 (by simp; omega) (by simp [Value.ownBlock])).alloc (by simp at hs4; omega) _).grown hgrow5 (by simp at hs4 ⊢; omega) (fun k hk => (hY3.lt k hk).1)
    have hYYp : (Value.slice (some ⟨g2, 0, none⟩) (xs.length + 1) k2).ownBlock ≠ some p := ownsRow_other hY5 hp5 (by decide)
    have hends : ∀ k, k < w3.heap.size → some k ≠ Y.ownBlock → w5.heap[k]? = w3.heap[k]? := (fun k hk hkY => by rw [hgrow5.block k (by simp at hs4 ⊢; omega) hkY, Lib.alloc_old w4 _ k (by simp at hs4; omega), hgrow4.block k hk (by simp [Value.ownBlock])]; rfl)
    obtain ⟨w6, hw6⟩ : ∃ w6, w6 = w5.setCell ⟨p, 1, none⟩ (.slice (some ⟨g2, 0, none⟩) (xs.length + 1) k2) := ⟨_, rfl⟩
    have hp6 : w6.heap[p]? = some (.cells #[.slice (some ⟨g1, 0, none⟩) (xs.length + 1) k1, .slice (some ⟨g2, 0, none⟩) (xs.length + 1) k2, .int .i64 h, .bool false] 51 (0, 0)) := by rw [hw6]; exact heap_setCell_same w5 p 1 _ _ _ hp5
    have c2 := cell_of_heapE hp6 2 _ rfl
    have f2 := Lib.frozen_of_heap hp6 2
    rw [← hw6]
    have HW6 := hid0 hw6
    clear hw6
    go_wp2_with fail
    obtain ⟨H, hH⟩ : ∃ H, wrap64 (wrap64 (h + (cap : Int)) + 1) = H := ⟨_, rfl⟩
    rw [hH]
    clear hH
    obtain ⟨w7, hw7⟩ : ∃ w7, w7 = w6.setCell ⟨p, 2, none⟩ (.int .i64 H) := ⟨_, rfl⟩
    have hp7 : w7.heap[p]? = some (.cells #[.slice (some ⟨g1, 0, none⟩) (xs.length + 1) k1, .slice (some ⟨g2, 0, none⟩) (xs.length + 1) k2, .int .i64 H, .bool false] 51 (0, 0)) := by rw [hw7]; exact heap_setCell_same w6 p 2 _ _ _ hp6
    rw [← hw7]
    have HW7 := hid0 hw7
    clear hw7 c2 f2 e4 e4b e1 f1 c1
    have s0 := cell_of_heapE hp7 0 _ rfl
    have s2 := cell_of_heapE hp7 2 _ rfl
    have hoff : ∀ k, k ≠ p → w7.heap[k]? = w5.heap[k]? := fun k hk => by rw [HW7.out, heap_setCell_other w6 ⟨p, 2, none⟩ k _ hk, HW6.out, heap_setCell_other w5 ⟨p, 1, none⟩ k _ hk]
    have hold3 : ∀ v, w3.ownsRow B 5 1 v l.length (Lib.byteCells l) → w7.ownsRow B 5 1 v l.length (Lib.byteCells l) := fun v hv => ownsRow_same hv fun k hk => by
      obtain ⟨cur, hcur⟩ := ownsRow_kind hv k hk
      rw [hoff k (fun e => ownsRow_other hv hp3 (by decide) (by rw [hk]; exact congrArg some e))]
      exact hends k (hv.lt k hk).2 (fun e => ownsRow_other hY3 hcur (by decide) e.symm)
    have hold3R : ∀ v, Rx w3 B v l → Rx w7 B v l := fun v hv => by
      obtain ⟨cur, fz, hcur, _⟩ := hv.2.2
      refine hv.same ?_
      rw [hoff (gOf v) (hv.other hp3 (by decide))]
      exact hends (gOf v) hv.lt (fun e => ownsRow_other hY3 hcur (by decide) e.symm)
    have hy7 : w7.ownsRow B 5 1 (.slice yo yn yc) l.length (Lib.byteCells l) := by
      have hy4' : w4.ownsRow B 5 1 (.slice yo yn yc) l.length (Lib.byteCells l) := by simpa using hy4
      refine ownsRow_same hy4' fun k hk => ?_
      obtain ⟨cur, hcur⟩ := ownsRow_kind hy4' k hk
      have hklt := (hy4'.lt k hk).2
      rw [hoff k (fun e => ownsRow_other hy4' hp4 (by decide) (by rw [hk]; exact congrArg some e)), hgrow5.block k (by simp; omega) (fun e => ownsRow_other hY4 hcur (by decide) e.symm), Lib.alloc_old w4 _ k hklt]
    have hA7 : w7.ownsRow B 27 1 (.slice (some ⟨g1, 0, none⟩) (xs.length + 1) k1) (xs.length + 1) (xs ++ [.slice (some ⟨g, 0, none⟩) l.length cap]) := ownsRow_same hA3 fun k hk => by
      rw [hoff k (fun e => hpA' (by rw [hk]; exact congrArg some e))]
      exact hends k (hA3.lt k hk).2 (fun e => hA'Y (by rw [hk]; exact e))
    have hY7 : w7.ownsRow B 27 1 (.slice (some ⟨g2, 0, none⟩) (xs.length + 1) k2) (xs.length + 1) (ys ++ [.slice yo yn yc]) := ownsRow_same hY5 fun k hk => hoff k (fun e => hYYp (by rw [hk]; exact congrArg some e))
    have hgg : (Value.slice (some ⟨g1, 0, none⟩) (xs.length + 1) k1).ownBlock ≠ (Value.slice (some ⟨g2, 0, none⟩) (xs.length + 1) k2).ownBlock := by
      rcases hw2 with e | e
      · rw [e] at hA'Y; exact hA'Y
      · intro e'
        have h1 := (hA3.lt g1 rfl).2
        have h2 : g1 = g2 := by simpa [Value.ownBlock] using e'
        simp at e hs4
        omega
    have HE := hid0 (show (∃ H y, Bo w7 B p H (xs ++ [.slice (some ⟨g, 0, none⟩) l.length cap]) (ys ++ [y]) l) ∧ Below B w w7 from by
      refine ⟨⟨H, .slice yo yn yc, hBp, by simp [hyl], ⟨_, _, ?_, ?_, ?_, .inr hgg⟩, ?_, ?_, ?_⟩, ?_⟩
      · exact hp7
      · simpa using hA7
      · simpa using hY7
      · intro x hxm
        rcases List.mem_append.1 hxm with hm | hm
        · exact hold3R x (hxs3 x hm)
        · rw [List.mem_singleton.1 hm]; exact hold3R _ hx3
      · intro y hym
        rcases List.mem_append.1 hym with hm | hm
        · exact hold3 y (hys3 y hm)
        · rw [List.mem_singleton.1 hm]; exact hy7
      · rw [List.pairwise_append]
        refine ⟨hpw, List.pairwise_singleton _ _, fun a ha b hb => ?_⟩
        rw [List.mem_singleton.1 hb]
        exact hne a ha
      · rw [HW7.out, HW6.out]
        exact (hb5.setCell (p := ⟨p, 1, none⟩) hBp _).setCell (p := ⟨p, 2, none⟩) hBp _)
    clear hoff hold3 hold3R hy7 hA7 hY7 hgg
    go_loopw [36] (fun _ wr => wr = w7) (fun _ _ => 0)
    case atStart => rfl
    case round =>
      obtain rfl := hrel
      have t1 : decide ((1 : Int) < (xs.length : Int) + 1) = false := by have := HN0.out; simp; omega
      go_wp2
      go_end0
      exact ⟨rfl, HE.out.1, HE.out.2⟩

end Go.Proofs.YtjmkccnjjofmeaaGreatDoor

namespace Go.Proofs.YtjmkccnjjofmeaaGreatDoor
open Go.RowKit

theorem own_lv {w : World} {B g n c : Nat} {us : List Value} (h : w.ownsRow B 27 1 (.slice (some ⟨g, 0, none⟩) n c) n us) : LvA w g 0 us ∧ n ≤ c ∧ c ≤ maxLen := by
  rcases h.2 with ⟨e, _⟩ | ⟨g', c', cur, e, _, hb, h1, h2, h3, h4⟩
  · cases e
  · obtain ⟨e1, _, e3⟩ := Value.slice.inj e
    obtain rfl : g = g' := by injection e1 with e1; injection e1
    subst e3
    refine ⟨⟨cur, (0, 0), hb, fun j u hu => ?_⟩, h1, h2⟩
    rw [← h4, List.getElem?_take] at hu
    split at hu
    · simpa using hu
    · cases hu

theorem LvA.tail {w : World} {g o : Nat} {a : Value} {us : List Value} (h : LvA w g o (a :: us)) : LvA w g (o + 1) us := by
  obtain ⟨cs, fz, hb, hc⟩ := h
  refine ⟨cs, fz, hb, fun j u hu => ?_⟩
  have := hc (j + 1) u (by simpa using hu)
  rw [show o + 1 + j = o + (j + 1) by omega]
  exact this

theorem Bv.drop {w : World} {B p : Nat} {h H : Int} {gA cA gY cY : Nat} {x0 x y0 y : Value} {l : List UInt8} (hbk : Bv w B p h gA 0 cA gY 0 cY [x0, x] [y0, y] l) :
    Bv (((w.setCell ⟨p, 2, none⟩ (.int .i64 H)).setCell ⟨p, 0, none⟩ (.slice (some ⟨gA, 1, none⟩) 1 (cA - 1))).setCell ⟨p, 1, none⟩ (.slice (some ⟨gY, 1, none⟩) 1 (cY - 1))) B p H gA 1 (cA - 1) gY 1 (cY - 1) [x] [y] l := by
  obtain ⟨hBp, hyl, hp, hA, hY, hxs, hys, hpw⟩ := hbk
  have e1 := heap_setCell_same w p 2 _ _ (.int .i64 H) hp
  have e2 := heap_setCell_same _ p 0 _ _ (.slice (some ⟨gA, 1, none⟩) 1 (cA - 1)) e1
  have e3 := heap_setCell_same _ p 1 _ _ (.slice (some ⟨gY, 1, none⟩) 1 (cY - 1)) e2
  have hk : ∀ k, k ≠ p → (((w.setCell ⟨p, 2, none⟩ (.int .i64 H)).setCell ⟨p, 0, none⟩ (.slice (some ⟨gA, 1, none⟩) 1 (cA - 1))).setCell ⟨p, 1, none⟩ (.slice (some ⟨gY, 1, none⟩) 1 (cY - 1))).heap[k]? = w.heap[k]? := fun k hk => by
    rw [heap_setCell_other _ ⟨p, 1, none⟩ k _ hk, heap_setCell_other _ ⟨p, 0, none⟩ k _ hk, heap_setCell_other _ ⟨p, 2, none⟩ k _ hk]
  refine ⟨hBp, rfl, e3, hA.tail.same (hk _ (hA.other hp (by decide))), hY.tail.same (hk _ (hY.other hp (by decide))), fun z hz => ?_, fun z hz => ?_, List.pairwise_singleton _ _⟩
  · have hz' := hxs z (by simp at hz ⊢; exact .inr hz)
    exact hz'.same (hk _ (hz'.other hp (by decide)))
  · have hz' := hys z (by simp at hz ⊢; exact .inr hz)
    exact ownsRow_same hz' fun k hk' => hk k (fun e => ownsRow_other hz' hp (by decide) (by rw [hk']; exact congrArg some e))

/-- A book of two lists, or of the last of them. -/
def K1Post (B p : Nat) (l : List UInt8) (w' : World) : Prop := ∃ H gA oA cA gY oY cY xs ys, xs.length ≤ 2 ∧ Bv w' B p H gA oA cA gY oY cY xs ys l

def lenAt (w : World) (p : Nat) : Nat := nOf ((w.cell? ⟨p, 0, none⟩).getD (.bool false))

set_option maxHeartbeats 4000000 in
set_option maxRecDepth 100000 in
theorem keep_1 (B p : Nat) (h : Int) (x0 y0 : Value) (l : List UInt8) (g cap : Nat) (w : World) (hbk : Bo w B p h [x0] [y0] l) (hx : Rx w B (.slice (some ⟨g, 0, none⟩) l.length cap) l)
    (hne : ∀ x ∈ [x0], x.ownBlock ≠ some g) (hl : l.length ≤ 1000000) (hBw : B ≤ w.heap.size) :
    Calls Tryz.prog 18 #[.pointer (some ⟨p, 0, none⟩), .slice (some ⟨g, 0, none⟩) l.length cap] w fun e w' => e = .returned (.tuple #[]) ∧ K1Post B p l w' ∧ Below B w w' := by
  obtain ⟨i0, hi, hz0, hz1, hz2⟩ := info_parts infoBytes
  obtain ⟨j0, ji, jz0, jz1, jz2⟩ := info_parts infoByte
  obtain ⟨hBp, hyl, ⟨A, Y, hp, hA, hY, hAY⟩, hxs, hys, hpw⟩ := hbk
  have c0 : w.cell? ⟨p, 0, none⟩ = some A := by rw [Lib.cell_of_heap hp]; rfl
  have hlt : p < w.heap.size := by
    rcases Nat.lt_or_ge p w.heap.size with h' | h'
    · exact h'
    · simp [Array.getElem?_eq_none h'] at hp
  go_enter Tryz.func18, Tryz.ntmps18
  go_wp2_with (at_builtin; refine wpList_append_where _ rfl _ _ 49 rfl B 27 i0 (.slice none 0 0) 1 24 Tryz.underlying49 hi hz0 hz1 hz2 rfl (by decide) A 1 [x0] rfl (hA.alloc _) ⟨w.heap.size, 0, none⟩ 1 1 [.slice (some ⟨g, 0, none⟩) l.length cap] rfl rfl ?c1 ?c2 ?c3 ?c4 ?c5 (by decide) ?_)
  case c1 =>
    intro j u hj
    match j, hj with
    | 0, hj => simp at hj; subst hj; simp [Addr.add]
  case c2 => intro u hu; simp at hu; subst hu; rfl
  case c3 => unfold maxLen; omega
  case c4 => omega
  case c5 => simp; omega
  intro AA w2 hAA hgrow hwhere
  obtain ⟨g1, k1, rfl, hw1⟩ := hwhere
  have hpA : A.ownBlock ≠ some p := ownsRow_other hA hp (by decide)
  have hb2 : w2.heap[p]? = some (.cells #[A, Y, .int .i64 h, .bool false] 51 (0, 0)) := by
    rw [hgrow.block p (by simp; omega) (fun e => hpA e.symm), Lib.alloc_old w _ p hlt]
    exact hp
  have d0 : w2.cell? ⟨p, 0, none⟩ = some A := by rw [Lib.cell_of_heap hb2]; rfl
  have f0 : w2.frozen? ⟨p, 0, none⟩ = false := Lib.frozen_of_heap hb2 0
  have hpA' : (Value.slice (some ⟨g1, 0, none⟩) 2 k1).ownBlock ≠ some p := ownsRow_other hAA hb2 (by decide)
  -- the world behind the first statement
  have hold : ∀ k, k < w.heap.size → some k ≠ A.ownBlock → k ≠ p → (w2.setCell ⟨p, 0, none⟩ (.slice (some ⟨g1, 0, none⟩) 2 k1)).heap[k]? = w.heap[k]? := by
    intro k hk hkA hkp
    rw [heap_setCell_other w2 ⟨p, 0, none⟩ k (.slice (some ⟨g1, 0, none⟩) 2 k1) hkp, hgrow.block k (by simp; omega) hkA, Lib.alloc_old w _ k hk]
  have hb3 : Below B w (w2.setCell ⟨p, 0, none⟩ (.slice (some ⟨g1, 0, none⟩) 2 k1)) := (((Below.refl B w).alloc hBw _).grown hgrow (by simp; omega) (fun k hk => (hA.lt k hk).1)).setCell (p := ⟨p, 0, none⟩) hBp _
  have hp3 : (w2.setCell ⟨p, 0, none⟩ (.slice (some ⟨g1, 0, none⟩) 2 k1)).heap[p]? = some (.cells #[(.slice (some ⟨g1, 0, none⟩) 2 k1), Y, .int .i64 h, .bool false] 51 (0, 0)) := heap_setCell_same w2 p 0 _ _ (.slice (some ⟨g1, 0, none⟩) 2 k1) hb2
  have hA3 : (w2.setCell ⟨p, 0, none⟩ (.slice (some ⟨g1, 0, none⟩) 2 k1)).ownsRow B 27 1 (.slice (some ⟨g1, 0, none⟩) 2 k1) 2 ([x0] ++ [.slice (some ⟨g, 0, none⟩) l.length cap]) := ownsRow_same hAA fun k hk => heap_setCell_other w2 ⟨p, 0, none⟩ k (.slice (some ⟨g1, 0, none⟩) 2 k1) (fun e => hpA' (by rw [hk]; exact congrArg some e))
  have hYp : Y.ownBlock ≠ some p := ownsRow_other hY hp (by decide)
  have hY3 : (w2.setCell ⟨p, 0, none⟩ (.slice (some ⟨g1, 0, none⟩) 2 k1)).ownsRow B 27 1 Y 1 [y0] := ownsRow_same hY fun k hk => hold k (hY.lt k hk).2 (fun e => by rcases hAY with h1 | h1; (rw [h1] at e; cases e); exact h1 (by rw [hk]; exact e.symm)) (fun e => hYp (by rw [hk]; exact congrArg some e))
  have hbytes : ∀ v, w.ownsRow B 5 1 v l.length (Lib.byteCells l) → (w2.setCell ⟨p, 0, none⟩ (.slice (some ⟨g1, 0, none⟩) 2 k1)).ownsRow B 5 1 v l.length (Lib.byteCells l) := fun v hv => ownsRow_same hv fun k hk => by
    obtain ⟨cur, hcur⟩ := ownsRow_kind hv k hk
    refine hold k (hv.lt k hk).2 (fun e => ownsRow_other hA hcur (by decide) e.symm) (fun e => ownsRow_other hv hp (by decide) (by rw [hk]; exact congrArg some e))
  have hbytesR : ∀ v, Rx w B v l → Rx (w2.setCell ⟨p, 0, none⟩ (.slice (some ⟨g1, 0, none⟩) 2 k1)) B v l := fun v hv => by
    obtain ⟨cur, fz, hcur, _⟩ := hv.2.2
    exact hv.same (hold (gOf v) hv.lt (fun e => ownsRow_other hA hcur (by decide) e.symm) (hv.other hp (by decide)))
  have hA'Y : (Value.slice (some ⟨g1, 0, none⟩) 2 k1).ownBlock ≠ Y.ownBlock := by
    intro e
    have e' : Y.ownBlock = some g1 := e.symm
    rcases hw1 with hw | hw
    · rcases hAY with h1 | h1
      · rw [h1] at hw; cases hw
      · exact h1 (by rw [hw, e'])
    · have := (hY.lt g1 e').2
      simp at hw
      omega
  go_wp2
  obtain ⟨w3, hw3⟩ : ∃ w3, w3 = w2.setCell ⟨p, 0, none⟩ (.slice (some ⟨g1, 0, none⟩) 2 k1) := ⟨_, rfl⟩
  rw [← hw3] at hold hb3 hp3 hA3 hY3 hbytes hbytesR ⊢
  clear hw3 hold hw1 hgrow d0 f0 hb2 hAA c0 hpA
  have hxs3 := fun x hx => hbytesR x (hxs x hx)
  have hys3 := fun x hx => hbytes x (hys x hx)
  have hx3 := hbytesR _ hx
  have hxc3 : ∀ j u, (Lib.byteCells l)[j]? = some u → w3.cell? ((⟨g, 0, none⟩ : Addr).add j) = some u := fun j u hu => by
    obtain ⟨_, _, cur, fz, hcur, _, _, hc⟩ := hx3
    have hj : j < l.length := by
      have := (List.getElem?_eq_some_iff.1 hu).1
      simpa [Lib.byteCells] using this
    have hb := hc j hj
    have hcur' : w3.heap[g]? = some (.cells cur 5 fz) := hcur
    rw [Addr.add_lit, Lib.cell_of_heap hcur', Nat.zero_add, hb]
    simp [Lib.byteCells, hj] at hu
    rw [hu]
  clear hbytes hbytesR hxs hys hx hY hA hAY
  have c1 : w3.cell? ⟨p, 1, none⟩ = some Y := by rw [Lib.cell_of_heap hp3]; rfl
  have hbs := hb3.size
  have hll : l.length ≤ cap := hx3.1.2.1
  have hlt3 : p < w3.heap.size := by omega
  have hY3p : Y.ownBlock ≠ some p := hYp
  go_region_law (first | (refine step_append_own0 rfl (.const (.slice none 0 0)) (.tmp 19) 27 rfl B 5 j0 (.int .u8 0) 1 1 Tryz.underlying27 ji jz0 jz1 jz2 rfl (by decide) (.slice none 0 0) 0 [] rfl (World.ownsRow_nil _ _ _ _) ⟨g, 0, none⟩ l.length cap (Lib.byteCells l) rfl (by simp [Lib.byteCells]) (by exact hxc3) (by exact bytes_oneC l) (by unfold maxLen; omega) (by omega) (by simp; omega) ?_; intro y w4 hy4 hgrow4 hnil4; obtain ⟨yo, yn, yc, rfl⟩ := ownsRow_slice hy4; have hY4 := ownsRow_same hY3 (fun k hk => hgrow4.block k (hY3.lt k hk).2 (by simp [Value.ownBlock])); have hp4 := (hgrow4.block p hlt3 (by simp [Value.ownBlock])).trans hp3; have hs4 := hgrow4.size; have e4 := cell_of_heapE hp4 1 Y rfl; have e4b : (w4.alloc (.cells #[.slice yo yn yc] 27)).cell? ⟨p, 1, none⟩ = some Y := cell_of_heapE ((Lib.alloc_old w4 _ p (by simp at hs4; omega)).trans hp4) 1 Y rfl) | (refine step_append_where rfl (.tmp 18) (.tmp 21) 49 rfl B 27 i0 (.slice none 0 0) 1 24 Tryz.underlying49 hi hz0 hz1 hz2 rfl (by decide) Y 1 [y0] rfl (by exact hY4.alloc _) ⟨w4.heap.size, 0, none⟩ 1 1 [.slice yo yn yc] rfl rfl (by intro j u hj; match j, hj with | 0, hj => simp at hj; subst hj; simp [Addr.add]) (by intro u hu; simp at hu; subst hu; rfl) (by unfold maxLen; omega) (by omega) (by simp at hs4 ⊢; omega) (by decide) ?_; intro YY w5 hY5 hgrow5 hwh; obtain ⟨g2, k2, rfl, hw2⟩ := hwh; have hp5 := (hgrow5.block p (by simp at hs4 ⊢; omega) (fun e => hY3p e.symm)).trans ((Lib.alloc_old w4 _ p (by simp at hs4; omega)).trans hp4); have e1 := cell_of_heapE hp5 1 Y rfl; have f1 := Lib.frozen_of_heap hp5 1))
  all_goals
    have hb5 : Below B w w5 := ((hb3.drew.grown hgrow4 (by simp; omega) (by simp [Value.ownBlock])).alloc (by simp at hs4; omega) _).grown hgrow5 (by simp at hs4 ⊢; omega) (fun k hk => (hY3.lt k hk).1)
    have hYYp : (Value.slice (some ⟨g2, 0, none⟩) 2 k2).ownBlock ≠ some p := ownsRow_other hY5 hp5 (by decide)
    have hends : ∀ k, k < w3.heap.size → some k ≠ Y.ownBlock → w5.heap[k]? = w3.heap[k]? := (fun k hk hkY => by rw [hgrow5.block k (by simp at hs4 ⊢; omega) hkY, Lib.alloc_old w4 _ k (by simp at hs4; omega), hgrow4.block k hk (by simp [Value.ownBlock])]; rfl)
    obtain ⟨w6, hw6⟩ : ∃ w6, w6 = w5.setCell ⟨p, 1, none⟩ (.slice (some ⟨g2, 0, none⟩) 2 k2) := ⟨_, rfl⟩
    have hp6 : w6.heap[p]? = some (.cells #[.slice (some ⟨g1, 0, none⟩) 2 k1, .slice (some ⟨g2, 0, none⟩) 2 k2, .int .i64 h, .bool false] 51 (0, 0)) := by rw [hw6]; exact heap_setCell_same w5 p 1 _ _ _ hp5
    have c2 := cell_of_heapE hp6 2 _ rfl
    have f2 := Lib.frozen_of_heap hp6 2
    rw [← hw6]
    have HW6 := hid0 hw6
    clear hw6
    go_wp2_with fail
    obtain ⟨H, hH⟩ : ∃ H, wrap64 (wrap64 (h + (cap : Int)) + 1) = H := ⟨_, rfl⟩
    rw [hH]
    clear hH
    obtain ⟨w7, hw7⟩ : ∃ w7, w7 = w6.setCell ⟨p, 2, none⟩ (.int .i64 H) := ⟨_, rfl⟩
    have hp7 : w7.heap[p]? = some (.cells #[.slice (some ⟨g1, 0, none⟩) 2 k1, .slice (some ⟨g2, 0, none⟩) 2 k2, .int .i64 H, .bool false] 51 (0, 0)) := by rw [hw7]; exact heap_setCell_same w6 p 2 _ _ _ hp6
    rw [← hw7]
    have HW7 := hid0 hw7
    clear hw7 c2 f2 e4 e4b e1 f1 c1
    have s0 := cell_of_heapE hp7 0 _ rfl
    have s2 := cell_of_heapE hp7 2 _ rfl
    have hoff : ∀ k, k ≠ p → w7.heap[k]? = w5.heap[k]? := fun k hk => by rw [HW7.out, heap_setCell_other w6 ⟨p, 2, none⟩ k _ hk, HW6.out, heap_setCell_other w5 ⟨p, 1, none⟩ k _ hk]
    have hold3 : ∀ v, w3.ownsRow B 5 1 v l.length (Lib.byteCells l) → w7.ownsRow B 5 1 v l.length (Lib.byteCells l) := fun v hv => ownsRow_same hv fun k hk => by
      obtain ⟨cur, hcur⟩ := ownsRow_kind hv k hk
      rw [hoff k (fun e => ownsRow_other hv hp3 (by decide) (by rw [hk]; exact congrArg some e))]
      exact hends k (hv.lt k hk).2 (fun e => ownsRow_other hY3 hcur (by decide) e.symm)
    have hold3R : ∀ v, Rx w3 B v l → Rx w7 B v l := fun v hv => by
      obtain ⟨cur, fz, hcur, _⟩ := hv.2.2
      refine hv.same ?_
      rw [hoff (gOf v) (hv.other hp3 (by decide))]
      exact hends (gOf v) hv.lt (fun e => ownsRow_other hY3 hcur (by decide) e.symm)
    have hy7 : w7.ownsRow B 5 1 (.slice yo yn yc) l.length (Lib.byteCells l) := by
      have hy4' : w4.ownsRow B 5 1 (.slice yo yn yc) l.length (Lib.byteCells l) := by simpa using hy4
      refine ownsRow_same hy4' fun k hk => ?_
      obtain ⟨cur, hcur⟩ := ownsRow_kind hy4' k hk
      have hklt := (hy4'.lt k hk).2
      rw [hoff k (fun e => ownsRow_other hy4' hp4 (by decide) (by rw [hk]; exact congrArg some e)), hgrow5.block k (by simp; omega) (fun e => ownsRow_other hY4 hcur (by decide) e.symm), Lib.alloc_old w4 _ k hklt]
    have hA7 : w7.ownsRow B 27 1 (.slice (some ⟨g1, 0, none⟩) 2 k1) 2 ([x0] ++ [.slice (some ⟨g, 0, none⟩) l.length cap]) := ownsRow_same hA3 fun k hk => by
      rw [hoff k (fun e => hpA' (by rw [hk]; exact congrArg some e))]
      exact hends k (hA3.lt k hk).2 (fun e => hA'Y (by rw [hk]; exact e))
    have hY7 : w7.ownsRow B 27 1 (.slice (some ⟨g2, 0, none⟩) 2 k2) 2 ([y0] ++ [.slice yo yn yc]) := ownsRow_same hY5 fun k hk => hoff k (fun e => hYYp (by rw [hk]; exact congrArg some e))
    have hgg : (Value.slice (some ⟨g1, 0, none⟩) 2 k1).ownBlock ≠ (Value.slice (some ⟨g2, 0, none⟩) 2 k2).ownBlock := by
      rcases hw2 with e | e
      · rw [e] at hA'Y; exact hA'Y
      · intro e'
        have h1 := (hA3.lt g1 rfl).2
        have h2 : g1 = g2 := by simpa [Value.ownBlock] using e'
        simp at e hs4
        omega
    have hbv : Bv w7 B p H g1 0 k1 g2 0 k2 [x0, (.slice (some ⟨g, 0, none⟩) l.length cap)] [y0, (.slice yo yn yc)] l := by
      refine ⟨hBp, rfl, hp7, (own_lv hA7).1, (own_lv hY7).1, fun z hz => ?_, fun z hz => ?_, ?_⟩
      · rcases List.mem_cons.1 hz with rfl | hz
        · exact hold3R _ (hxs3 _ (by simp))
        · rw [List.mem_singleton.1 hz]; exact hold3R _ hx3
      · rcases List.mem_cons.1 hz with rfl | hz
        · exact hold3 _ (hys3 _ (by simp))
        · rw [List.mem_singleton.1 hz]; exact hy7
      · refine List.Pairwise.cons (fun b hb => ?_) (List.pairwise_singleton _ _)
        rw [List.mem_singleton.1 hb]
        exact hne x0 (by simp)
    have hb7 : Below B w w7 := by
      rw [HW7.out, HW6.out]
      exact (hb5.setCell (p := ⟨p, 1, none⟩) hBp _).setCell (p := ⟨p, 2, none⟩) hBp _
    have HK1 := hid0 (own_lv hA7).2
    have HK2 := hid0 (own_lv hY7).2
    have HBV := hid0 hbv
    have HB7 := hid0 hb7
    obtain ⟨xa, xn, xc, hx0e⟩ : ∃ xa xn xc, x0 = .slice xa xn xc := ⟨_, _, _, (hxs3 _ (by simp)).1.1⟩
    obtain ⟨ya, yn', yc', hy0e⟩ : ∃ ya yn yc, y0 = .slice ya yn yc := ownsRow_slice (hys3 _ (by simp))
    subst hx0e hy0e
    clear hoff hold3 hold3R hy7 hA7 hY7 hgg hbv hb7 hxs3 hys3 hx3 hxc3 hp7 s0 s2 hA3 hY3 hp3 hb3 hY5 hp5 hb5 hends hgrow5 hgrow4 hp6 hne
    go_loopw [36] (fun _ wr => wr = w7 ∨ ∃ H2, Bv wr B p H2 g1 1 (k1 - 1) g2 1 (k2 - 1) [(.slice (some ⟨g, 0, none⟩) l.length cap)] [(.slice yo yn yc)] l ∧ Below B w wr) (fun _ wr => lenAt wr p)
    case atStart => exact .inl rfl
    case round =>
      rcases hrel with rfl | ⟨H2, hbv2, hbw⟩
      · have hp7 := HBV.out.2.2.1
        have c0 := cell_of_heapE hp7 0 _ rfl
        have c1 := cell_of_heapE hp7 1 _ rfl
        have c2 := cell_of_heapE hp7 2 _ rfl
        have c3 := cell_of_heapE hp7 3 _ rfl
        by_cases hH : 1000000 < H
        · have t2 : decide ((1000000 : Int) < H) = true := by simp; exact hH
          have q1 : wr.cell? ⟨g1, 0, none⟩ = some (.slice xa xn xc) := HBV.out.2.2.2.1.cell 0 _ rfl
          have q2 : wr.cell? ⟨g2, 0, none⟩ = some (.slice ya yn' yc') := HBV.out.2.2.2.2.1.cell 0 _ rfl
          have hxS : SlB wr.drew (.slice xa xn xc) l := ((HBV.out.2.2.2.2.2.1 (.slice xa xn xc) (by simp)).sl : SlB wr _ l)
          have hyS : SlB wr.drew (.slice ya yn' yc') l := SlB.own (HBV.out.2.2.2.2.2.2.1 (.slice ya yn' yc') (by simp))
          have hplt : p < wr.heap.size := (Array.getElem?_eq_some_iff.1 hp7).1
          have hk1 := HK1.out.1
          have hk2 := HK2.out.1
          clear hH
          go_wp2_with fail
          go_region_held (fun wx => wx.cell? ⟨p, 0, none⟩ = some (.slice (some ⟨g1, 0, none⟩) 2 k1) ∧ wx.cell? ⟨p, 1, none⟩ = some (.slice (some ⟨g2, 0, none⟩) 2 k2) ∧ wx.cell? ⟨p, 3, none⟩ = some (.bool false) ∧ wx.cell? ⟨g1, 0, none⟩ = some (.slice xa xn xc) ∧ wx.cell? ⟨g2, 0, none⟩ = some (.slice ya yn' yc')) (first | (refine ⟨(setCell_idle hp2 rfl _).trans d0, (setCell_idle hp2 rfl _).trans d1, (setCell_idle hp2 rfl _).trans d3, (setCell_idle hp2 rfl _).trans d4, (setCell_idle hp2 rfl _).trans d5⟩) | go_keep) (first | (go_at_call 17; refine (same_any _ _ _ _ _ _ l l wr.drew hxS hyS (by omega) (by omega)).mono ?_; rintro e w8 ⟨rfl, hb2x⟩; have hb2 : Below wr.heap.size wr w8 := (Below.refl _ wr).drew.trans hb2x; have hp2 := (hb2.block p hplt).trans hp7; have f3 := Lib.frozen_of_heap ((hb2.block p hplt).trans hp7) 3; have d3 := cell_of_heapE ((hb2.block p hplt).trans hp7) 3 _ rfl; have d0 := cell_of_heapE ((hb2.block p hplt).trans hp7) 0 _ rfl; have d1 := cell_of_heapE ((hb2.block p hplt).trans hp7) 1 _ rfl; have d4 := (hb2.cell (World.block_lt_of_cell? wr _ q1)).trans q1; have d5 := (hb2.cell (World.block_lt_of_cell? wr _ q2)).trans q2))
          all_goals
            have HV9 := hid0 (HBV.out.below hb2).same
            have HB9 := hid0 ((HB7.out.trans (hb2.mono (by have := HB7.out.size; omega))).setCell (p := ⟨p, 3, none⟩) hBp (.bool false))
            obtain ⟨w9, hw9⟩ : ∃ w9, w9 = w8.setCell ⟨p, 3, none⟩ (.bool false) := ⟨_, rfl⟩
            rw [← hw9] at HV9 HB9 ⊢
            clear hw9 d0 d1 d3 d4 d5 f3 hp2 hb2 hb2x c0 c1 c2 c3 q1 q2 hxS hyS
            have hp9 := HV9.out.2.2.1
            have c0 := cell_of_heapE hp9 0 _ rfl
            have c2 := cell_of_heapE hp9 2 _ rfl
            have f2 := Lib.frozen_of_heap hp9 2
            have q1 : w9.cell? ⟨g1, 0, none⟩ = some (.slice xa xn xc) := HV9.out.2.2.2.1.cell 0 _ rfl
            go_wp2_with fail
            go_region
            all_goals
              obtain ⟨H2, hH2⟩ : ∃ H2, wrap64 (wrap64 (H - (xc : Int)) - 1) = H2 := ⟨_, rfl⟩
              rw [hH2]
              clear hH2
              have HV10 := hid0 (Bv.drop (H := H2) HV9.out)
              have e10 := heap_setCell_same w9 p 2 _ _ (.int .i64 H2) hp9
              have e11 := heap_setCell_same _ p 0 _ _ (.slice (some ⟨g1, 1, none⟩) 1 (k1 - 1)) e10
              have d0 := cell_of_heapE e10 0 _ rfl
              have g0 := Lib.frozen_of_heap e10 0
              have d1 := cell_of_heapE e11 1 _ rfl
              have g1' := Lib.frozen_of_heap e11 1
              have HB10 := hid0 (((HB9.out.setCell (p := ⟨p, 2, none⟩) hBp (.int .i64 H2)).setCell (p := ⟨p, 0, none⟩) hBp (.slice (some ⟨g1, 1, none⟩) 1 (k1 - 1))).setCell (p := ⟨p, 1, none⟩) hBp (.slice (some ⟨g2, 1, none⟩) 1 (k2 - 1)))
              have HLn := hid0 (show lenAt wr p = 2 by unfold lenAt; rw [cell_of_heapE hp7 0 _ rfl]; rfl)
              clear e10 e11 c0 c2 f2 q1 hp9
              go_wp2_with fail
              go_roundw
              case rel => exact .inr ⟨H2, HV10.out, HB10.out.drew⟩
              case measure =>
                rw [HLn.out]
                exact Nat.lt_of_le_of_lt (Nat.le_of_eq (congrArg (fun o : Option Value => nOf (o.getD (.bool false))) (cell_of_heapE HV10.out.2.2.1 0 _ rfl))) (Nat.lt_succ_self 1)
        · have t2 : decide ((1000000 : Int) < H) = false := by simp; omega
          go_wp2_with fail
          go_end0
          exact ⟨rfl, ⟨H, g1, 0, k1, g2, 0, k2, [(.slice xa xn xc), (.slice (some ⟨g, 0, none⟩) l.length cap)], [(.slice ya yn' yc'), (.slice yo yn yc)], Nat.le_refl _, HBV.out⟩, HB7.out⟩
      · have hp2 := hbv2.2.2.1
        have c0 := cell_of_heapE hp2 0 _ rfl
        have HV2 := hid0 hbv2
        clear hbv2 hp2
        go_wp2_with fail
        go_end0
        exact ⟨rfl, ⟨H2, g1, 1, k1 - 1, g2, 1, k2 - 1, [(.slice (some ⟨g, 0, none⟩) l.length cap)], [(.slice yo yn yc)], by simp, HV2.out⟩, hbw⟩

end Go.Proofs.YtjmkccnjjofmeaaGreatDoor

namespace Go.Proofs.YtjmkccnjjofmeaaGreatDoor
/-- A byte that stands for itself in an address' text. -/
def adC (c : UInt8) : Bool := decide (33 ≤ c.toNat) && (decide (c.toNat ≤ 126) && (c != 35 && c != 63))

theorem adC_facts {c : UInt8} (h : adC c = true) : 33 ≤ c.toNat ∧ c.toNat ≤ 126 ∧ c ≠ 35 ∧ c ≠ 63 := by
  unfold adC at h
  simpa [Bool.and_eq_true] using h

def dAdr (X : List UInt8) : Adr := ⟨dataB, [], [], [], false, -1, true, [X], [], [], false, false⟩

theorem drop_no (p : UInt8 → Bool) (l : List UInt8) (h : ∀ c ∈ l, p c = false) : l.dropWhile p = l := by
  cases l with
  | nil => rfl
  | cons c l => rw [List.dropWhile_cons, h c (by simp)]; rfl

theorem clean_id (l : List UInt8) (h : ∀ c ∈ l, 33 ≤ c.toNat) : cleanV l = l := by
  have hw : ∀ c ∈ l, wsC c = false := fun c hc => by unfold wsC; rw [decide_eq_false]; have := h c hc; omega
  unfold cleanV trimV
  rw [drop_no wsC l hw, drop_no wsC l.reverse (fun c hc => hw c (by simpa using hc)), List.reverse_reverse, List.filter_eq_self]
  intro c hc
  have := h c hc
  unfold eyeC
  simp only [Bool.not_eq_true', Bool.or_eq_false_iff, beq_eq_false_iff_ne]
  refine ⟨?_, ?_, ?_⟩ <;> (intro e; subst e; revert this; decide)

theorem take_yes (p : UInt8 → Bool) (l : List UInt8) (h : ∀ c ∈ l, p c = true) : l.takeWhile p = l := by
  induction l with
  | nil => rfl
  | cons c l ih => rw [List.takeWhile_cons, h c (by simp), if_pos rfl, ih fun d hd => h d (by simp [hd])]

theorem drop_yes (p : UInt8 → Bool) (l : List UInt8) (h : ∀ c ∈ l, p c = true) : l.dropWhile p = [] := by
  induction l with
  | nil => rfl
  | cons c l ih => rw [List.dropWhile_cons, h c (by simp), if_pos rfl, ih fun d hd => h d (by simp [hd])]

theorem ahead_none (l : List UInt8) (h : ∀ c ∈ l, c ≠ 63) : aheadV [63] l = (l, []) := by
  have key : ∀ c ∈ l, (!([63] : List UInt8).contains c) = true := fun c hc => by simp [h c hc]
  unfold aheadV
  rw [take_yes _ l key]
  rw [drop_yes _ l key]

theorem url_data (X : List UInt8) (h : ∀ c ∈ X, adC c = true) (h0 : X.head? ≠ some 47) (hl : X.length ≤ 290) : urlV (dataB ++ 58 :: X) = .ok (dAdr X) := by
  have hd0 : ∀ c ∈ dataB, adC c = true := by decide
  have hall : ∀ c ∈ dataB ++ 58 :: X, adC c = true := fun c hc => by
    rcases List.mem_append.1 hc with hc | hc
    · exact hd0 c hc
    · rcases List.mem_cons.1 hc with rfl | hc
      · decide
      · exact h c hc
  have hlen : (dataB ++ 58 :: X).length ≤ 300 := by simp [dataB]; omega
  unfold urlV
  rw [List.take_of_length_le hlen]
  have hcl := clean_id (dataB ++ 58 :: X) (fun c hc => (adC_facts (hall c hc)).1)
  have hp35 : part 35 (dataB ++ 58 :: X) = (dataB ++ 58 :: X, [], false) := part_none 35 _ (fun hm => (adC_facts (hall 35 hm)).2.2.1 rfl)
  have hp58 : part 58 (dataB ++ 58 :: X) = (dataB, X, true) := part_some 58 dataB X (by decide)
  have hsch : schemeV (dataB ++ 58 :: X) = some (dataB, X) := by
    unfold schemeV
    rw [hp58]
    rw [show (schOk (dataB, X, true).1) = true from (by decide : schOk dataB = true), show low (dataB, X, true).1 = dataB from (by decide : low dataB = dataB)]
    rfl
  have hbe : beginU (dataB ++ 58 :: X) = (⟨dataB, [], [], [], false, -1, false, [], [], [], false, false⟩, X) := by
    unfold beginU
    simp only [hcl, hp35, hsch, Option.getD_some]
    rfl
  have hpct : pct 1 X = X := pct_none 1 X fun d hd => set1_out d (by have := adC_facts (h d hd); omega) (adC_facts (h d hd)).2.1
  have hah := ahead_none X fun c hc => (adC_facts (h c hc)).2.2.2
  have hs1 : Lib.hasPrefix X [47, 47] = false := by
    cases X with
    | nil => rfl
    | cons c r => simp at h0; simp [Lib.hasPrefix, List.isPrefixOf]; intro e; exact absurd e.symm h0
  have hs2 : Lib.hasPrefix X [47] = false := by
    cases X with
    | nil => rfl
    | cons c r => simp at h0; simp [Lib.hasPrefix, List.isPrefixOf]; intro e; exact absurd e.symm h0
  unfold readV
  rw [if_neg (by omega), hbe]
  simp only
  rw [if_neg (by decide)]
  unfold startV
  simp only
  rw [show specV dataB = false from by decide, hs1, hs2, hah, hpct]
  simp [withQuery, dAdr]

theorem txt_dAdr (X : List UInt8) : txtD (dAdr X) = X := by
  unfold txtD bareV authT pathT dAdr
  simp [Lib.trimPrefix, Lib.hasPrefix, dataB]

theorem strip_id (K : List UInt8) (h : ∀ c ∈ K, 33 ≤ c.toNat) : strip K = K := by
  have hb : ∀ c ∈ K, blC c = false := fun c hc => by
    have := h c hc
    unfold blC blankI
    simp only [Bool.or_eq_false_iff, beq_eq_false_iff_ne]
    refine ⟨?_, ?_, ?_, ?_, ?_⟩ <;> omega
  unfold strip
  rw [drop_no blC K hb, drop_no blC K.reverse (fun c hc => hb c (by simpa using hc)), List.reverse_reverse]

theorem cut_data (K S : List UInt8) (h : ∀ c ∈ K, 33 ≤ c.toNat) (h44 : 44 ∉ K) : cutK (K ++ 44 :: S) = K ∧ cutD (K ++ 44 :: S) = unpct S ∧ cutO (K ++ 44 :: S) = true := by
  unfold cutK cutD cutO
  rw [part_some 44 K S h44]
  exact ⟨strip_id K h, rfl, rfl⟩

/-- Letters, digits and '-'. -/
def ltC (c : UInt8) : Bool := (decide (97 ≤ c.toNat) && decide (c.toNat ≤ 122)) || ((decide (48 ≤ c.toNat) && decide (c.toNat ≤ 57)) || c == 45)

theorem lt_all : ((List.range 256).all fun n => !ltC (UInt8.ofNat n) || (adC (UInt8.ofNat n) && (pkC (UInt8.ofNat n) && (tokC (UInt8.ofNat n) && (lowC (UInt8.ofNat n) == UInt8.ofNat n && (UInt8.ofNat n != 59 && UInt8.ofNat n != 32)))))) = true := by decide +kernel

theorem lt_facts {c : UInt8} (h : ltC c = true) : adC c = true ∧ pkC c = true ∧ tokC c = true ∧ lowC c = c ∧ c ≠ 59 ∧ c ≠ 32 := by
  have := byte_all (p := fun c => !ltC c || (adC c && (pkC c && (tokC c && (lowC c == c && (c != 59 && c != 32)))))) lt_all c
  simp only [h, Bool.not_true, Bool.false_or, Bool.and_eq_true, beq_iff_eq, bne_iff_ne] at this
  exact ⟨this.1, this.2.1, this.2.2.1, this.2.2.2.1, this.2.2.2.2.1, this.2.2.2.2.2⟩

/-- A word: a letter, and letters, digits and '-' behind it. -/
def Word7 (A : List UInt8) : Prop := A ≠ [] ∧ ∀ c ∈ A, ltC c = true

theorem word_good {A M : List UInt8} (hA : Word7 A) (hM : Word7 M) : GoodK ⟨A, M, []⟩ := by
  have key : ∀ {A : List UInt8}, Word7 A → tokL A = true ∧ low A = A := fun {A} hA => by
    refine ⟨tokL_of (fun c hc => (lt_facts (hA.2 c hc)).2.2.1) hA.1, ?_⟩
    unfold low
    have h := hA.2
    generalize A = l at h
    induction l with
    | nil => rfl
    | cons c l ih => rw [List.map_cons, (lt_facts (h c (by simp))).2.2.2.1, ih fun d hd => h d (by simp [hd])]
  exact ⟨(key hA).1, (key hA).2, (key hM).1, (key hM).2, fun p hp => by simp at hp, List.Pairwise.nil⟩

theorem word_typ {A M : List UInt8} (hA : Word7 A) (hM : Word7 M) : typV (A ++ 47 :: M) = ⟨A, M, []⟩ ∧ txtV ⟨A, M, []⟩ = A ++ 47 :: M := by
  have e : txtV ⟨A, M, []⟩ = A ++ 47 :: M := by simp [txtV, essV]
  have h := kn_back ⟨A, M, []⟩ (word_good hA hM)
  rw [e] at h
  refine ⟨?_, e⟩
  unfold typV
  rw [h.1, if_pos rfl, h.2]

theorem word_kind {A M : List UInt8} (hA : Word7 A) (hM : Word7 M) : ∀ c ∈ A ++ 47 :: M, adC c = true ∧ pkC c = true ∧ c ≠ 59 ∧ c ≠ 32 := fun c hc => by
  have key : ∀ {A : List UInt8}, Word7 A → ∀ c ∈ A, adC c = true ∧ pkC c = true ∧ c ≠ 59 ∧ c ≠ 32 := fun {A} hA c hc => by
    have := lt_facts (hA.2 c hc)
    exact ⟨this.1, this.2.1, this.2.2.2.2.1, this.2.2.2.2.2⟩
  rcases List.mem_append.1 hc with hc | hc
  · exact key hA c hc
  · rcases List.mem_cons.1 hc with rfl | hc
    · exact ⟨by decide, by decide, by decide, by decide⟩
    · exact key hM c hc

theorem word_com {A M : List UInt8} (hA : Word7 A) (hM : Word7 M) : comK (A ++ 47 :: M) = A ++ 47 :: M := by
  unfold comK
  rw [if_neg]
  cases A with
  | nil => exact absurd rfl hA.1
  | cons c A =>
    have := (lt_facts (hA.2 c (by simp))).2.2.2.2.1
    simp [Lib.hasPrefix, List.isPrefixOf]
    exact fun e => this e.symm

/-- The kind of an address that is told in base 64. -/
def bkK (A M : List UInt8) : List UInt8 := (A ++ 47 :: M) ++ 59 :: markB

theorem bk_mark {A M : List UInt8} (hA : Word7 A) (hM : Word7 M) : isM (bkK A M) = true ∧ offM (bkK A M) = A ++ 47 :: M := by
  have hl : (bkK A M).length - 6 = (A ++ 47 :: M).length + 1 := by simp [bkK, markB]; omega
  have h6 : 6 ≤ (bkK A M).length := by simp [bkK, markB]; omega
  have e : bkK A M = ((A ++ 47 :: M) ++ [59]) ++ markB := by simp [bkK]
  have hl' : (bkK A M).length - 6 = ((A ++ 47 :: M) ++ [59]).length := by rw [hl]; simp; omega
  have hd : (bkK A M).drop ((bkK A M).length - 6) = markB := by rw [hl', e, List.drop_left]
  have ht : (bkK A M).take ((bkK A M).length - 6) = (A ++ 47 :: M) ++ [59] := by rw [hl', e, List.take_left]
  have ha : ahead6 (bkK A M) = (A ++ 47 :: M) ++ [59] := by
    unfold ahead6 noBl Lib.trimRightB
    rw [ht, List.reverse_append]
    simp [List.dropWhile_cons]
  have hsf : Lib.hasSuffix ((A ++ 47 :: M) ++ [59]) [59] = true := by
    unfold Lib.hasSuffix
    rw [List.isSuffixOf_iff_suffix]
    exact List.suffix_append _ _
  refine ⟨?_, ?_⟩
  · unfold isM ends6
    rw [decide_eq_true h6, hd, ha, hsf]
    decide
  · unfold offM Lib.trimSuffix
    rw [ha, hsf, if_pos rfl, List.length_append]
    exact List.take_left

theorem unpct_id (l : List UInt8) (h : ∀ c ∈ l, c ≠ 37) : unpct l = l := by
  have key : ∀ (n : Nat) (l : List UInt8), l.length ≤ n → (∀ c ∈ l, c ≠ 37) → unpct l = l := by
    intro n
    induction n with
    | zero => intro l hl h; obtain rfl := List.eq_nil_of_length_eq_zero (show l.length = 0 by omega); rfl
    | succ n ih =>
      intro l hl h
      cases l with
      | nil => rfl
      | cons c l =>
        rw [unpct_cons, pcd_other l c (h c (by simp))]
        simp only
        rw [if_neg (by decide), ih l (by simp at hl; omega) fun d hd => h d (by simp [hd])]
  exact key _ l (Nat.le_refl _) h

theorem e64_mem (l : List UInt8) : ∀ d ∈ e64 l, d = 61 ∨ ∃ k, k < 64 ∧ d = d64 k := fun d hd => by
  rw [e64_split] at hd
  rcases List.mem_append.1 hd with hd | hd
  · exact .inr (eD_mem l d hd)
  · rcases padE_forms l with h | h | h <;> rw [h] at hd <;> simp at hd
    · exact .inl hd
    · exact .inl hd

theorem d64_ad : ∀ k, k < 64 → adC (d64 k) = true ∧ d64 k ≠ 37 := by decide +kernel

theorem e64_ad (l : List UInt8) : ∀ d ∈ e64 l, adC d = true ∧ d ≠ 37 := fun d hd => by
  rcases e64_mem l d hd with rfl | ⟨k, hk, rfl⟩
  · exact ⟨by decide, by decide⟩
  · exact d64_ad k hk

/-- What Make makes of a word's kind and bytes, read. -/
theorem back_data {A M l : List UInt8} (hA : Word7 A) (hM : Word7 M) (hl : A.length + M.length + (e64 l).length ≤ 265) :
    urlV (mkV A M l) = .ok (dAdr (bkK A M ++ 44 :: e64 l)) ∧ rdO (dAdr (bkK A M ++ 44 :: e64 l)) = true ∧ typV (rdK (dAdr (bkK A M ++ 44 :: e64 l))) = ⟨A, M, []⟩ ∧ rdB (dAdr (bkK A M ++ 44 :: e64 l)) = l := by
  have hK : ∀ c ∈ bkK A M, adC c = true ∧ c ≠ 44 := fun c hc => by
    rcases List.mem_append.1 hc with hc | hc
    · have := word_kind hA hM c hc
      exact ⟨this.1, (pkC_facts c this.2.1).2.2.2.2.2⟩
    · have h0 : ∀ c ∈ 59 :: markB, adC c = true ∧ c ≠ 44 := by decide
      exact h0 c hc
  have hX : ∀ c ∈ bkK A M ++ 44 :: e64 l, adC c = true := fun c hc => by
    rcases List.mem_append.1 hc with hc | hc
    · exact (hK c hc).1
    · rcases List.mem_cons.1 hc with rfl | hc
      · decide
      · exact (e64_ad l c hc).1
  have hh : (bkK A M ++ 44 :: e64 l).head? ≠ some 47 := by
    cases A with
    | nil => exact absurd rfl hA.1
    | cons c A =>
      intro e
      simp [bkK] at e
      have := hA.2 c (by simp)
      rw [e] at this
      revert this
      decide
  have hlen : (bkK A M ++ 44 :: e64 l).length ≤ 290 := by simp [bkK, markB]; omega
  have hu := url_data _ hX hh hlen
  have em : mkV A M l = dataB ++ 58 :: (bkK A M ++ 44 :: e64 l) := by simp [mkV, bkK, dataB, markB]
  obtain ⟨c1, c2, c3⟩ := cut_data (bkK A M) (e64 l) (fun c hc => (adC_facts (hK c hc).1).1) (fun h => (hK 44 h).2 rfl)
  rw [unpct_id _ fun c hc => (e64_ad l c hc).2] at c2
  obtain ⟨m1, m2⟩ := bk_mark hA hM
  have hb := b64_back l
  refine ⟨by rw [em]; exact hu, ?_, ?_, ?_⟩
  · unfold rdO
    rw [txt_dAdr, c1, c2, c3]
    unfold unO
    rw [hb]
    simp
    rfl
  · unfold rdK
    rw [txt_dAdr, c1]
    unfold unK
    rw [m1, if_pos rfl, m2, word_com hA hM]
    exact (word_typ hA hM).1
  · unfold rdB
    rw [txt_dAdr, c1, c2]
    unfold unB
    rw [m1, if_pos rfl, hb]
    rfl

end Go.Proofs.YtjmkccnjjofmeaaGreatDoor

namespace Go.Proofs.YtjmkccnjjofmeaaGreatDoor
open Go.RowKit

theorem Bo.below {w w' : World} {B p : Nat} {h : Int} {xs ys : List Value} {l : List UInt8} (hbk : Bo w B p h xs ys l) (hb : Below w.heap.size w w') : Bo w' B p h xs ys l := by
  obtain ⟨hBp, hyl, ⟨A, Y, hp, hA, hY, hAY⟩, hxs, hys, hpw⟩ := hbk
  have hlt : p < w.heap.size := (Array.getElem?_eq_some_iff.1 hp).1
  refine ⟨hBp, hyl, ⟨A, Y, (hb.block p hlt).trans hp, ownsRow_same hA fun k hk => hb.block k (hA.lt k hk).2, ownsRow_same hY fun k hk => hb.block k (hY.lt k hk).2, hAY⟩, fun x hx => (hxs x hx).same (hb.block _ (hxs x hx).lt), fun y hy => ?_, hpw⟩
  exact ownsRow_same (hys y hy) fun k hk => hb.block k ((hys y hy).lt k hk).2

theorem Rx.low {w : World} {B C : Nat} {x : Value} {l : List UInt8} (h : Rx w B x l) (hC : C ≤ B) : Rx w C x l := by
  obtain ⟨⟨h1, h2, h3, h4⟩, h5⟩ := h
  exact ⟨⟨h1, h2, h3, by omega⟩, h5⟩

def KSt (B p : Nat) (l : List UInt8) (k : Nat) (wr : World) : Prop := (k = 0 ∧ Bo wr B p 0 [] [] l) ∨ (k = 1 ∧ ∃ H x0 y0, Bo wr B p H [x0] [y0] l) ∨ (k = 2 ∧ K1Post B p l wr)

theorem wordA : Word7 [97] := ⟨by simp, by decide⟩

theorem wordB : Word7 [98] := ⟨by simp, by decide⟩

theorem e64_tight2 (l : List UInt8) : 3 * (e64 l).length ≤ 4 * (l.length + 2) := by
  have key : ∀ (n : Nat) (l : List UInt8), l.length ≤ n → 3 * (e64 l).length ≤ 4 * (l.length + 2) := by
    intro n
    induction n with
    | zero => intro l h; obtain rfl := List.eq_nil_of_length_eq_zero (show l.length = 0 by omega); simp [e64]
    | succ n ih =>
      intro l h
      match l, h with
      | [], _ => simp [e64]
      | [a], _ => simp [e64]
      | [a, b], _ => simp [e64]
      | a :: b :: c :: r, h =>
        have := ih r (by simp at h; omega)
        simp only [e64, List.length_cons, List.length_append, List.length_nil]
        omega
  exact key _ l (Nat.le_refl _)

set_option maxHeartbeats 4000000 in
set_option maxRecDepth 100000 in
theorem dataKept_walk (q0 : Option Addr) (len0 cap0 : Nat) (z0 : List Int) (w : World) (w0 : IsRow .u8 w q0 len0 cap0 z0) (hg : Gd w) (hG : G5 w) :
    Calls Tryz.prog 6 #[.slice q0 len0 cap0] w fun e w' => e = .returned (.bool true) ∧ Below w.heap.size w w' := by
  obtain ⟨l0, hl0, hS0, hc0, hm0⟩ := w0.bytes
  have Hg := hid hg
  have HG := hid hG
  clear w0 hg hG
  go_enter Tryz.func6, Tryz.ntmps6
  go_wp2_with fail
  refine (fewBytes_any q0 len0 cap0 150 l0 w hl0 hS0 hc0 hm0 (by decide)).mono ?_
  rintro e w1 ⟨len, hlen, hlc, rfl, hS, rfl⟩
  obtain ⟨l, hl⟩ : ∃ l, l = l0.take 150 := ⟨_, rfl⟩
  rw [← hl] at hS hlen
  have hll : l.length ≤ 150 := by rw [hl]; simp; omega
  have HS := hid hS
  have HLL := hid hll
  have HLc := hid hlc
  have HM := hid hm0
  clear hl hS0 hl0 hS hlen hll hlc hm0 hc0
  obtain ⟨k1, k2, k3, k4⟩ := back_data (l := l) wordA wordB (by have := e64_tight2 l; have := HLL.out; simp; omega)
  obtain ⟨u, hu⟩ : ∃ u, dAdr (bkK [97] [98] ++ 44 :: e64 l) = u := ⟨_, rfl⟩
  rw [hu] at k1 k2 k3 k4
  obtain ⟨X, hX⟩ : ∃ X, ba (mkV [97] [98] l) = X := ⟨_, rfl⟩
  have hXl : urlV X.data.toList = .ok u := by rw [← hX]; exact k1
  have hXs : X.size ≤ 1000 := by
    rw [← hX, ba_size]
    have h1 := e64_le l
    have h2 := HLL.out
    simp only [mkV, List.length_append, List.length_cons, List.length_nil]
    omega
  have HMk : Hid (∀ w, G5 w → SlB w (.slice q0 len cap0) l → Calls Tryz.prog 9 #[.agg #[.string ⟨#[97]⟩, .string ⟨#[98]⟩, .slice none 0 0], .slice q0 len cap0] w fun e w' => e = .returned (.string X) ∧ Below w.heap.size w w') := fun w hG hv => by
    rw [← hX]
    exact make_d ⟨#[97]⟩ ⟨#[98]⟩ q0 len cap0 l w hG (by decide) (by decide) (by decide) (by decide) hv HLc.out HM.out (by have := HLL.out; omega)
  have HUr : Hid (∀ w, Calls Tryz.prog 12 #[.string X] w (UPost (.ok u) w)) := fun w => by
    have := url_k X w (by omega)
    rw [hXl] at this
    exact this
  have hfi := parse_fine (s := X.data.toList.take 300) (u := u) hXl
  have HRd := hid (fun pv w hg hG hp => read_d u pv w hg hG hfi hp)
  have HK2 := hid k2
  have HK4 := hid k4
  clear k1 k2 k3 k4 hu hX hXl hfi
  go_wp2_with fail
  refine (HMk.out _ HG.out HS.out).mono ?_
  rintro e w2 ⟨rfl, hb2⟩
  have HB2 := hid hb2
  clear hb2
  go_wp2_with fail
  refine (HUr.out _).mono ?_
  rintro e w3 ⟨pv, rfl, hown, hb3⟩
  simp only [adrOf, isOk] at *
  have HB3 := hid (below2 HB2.out hb3)
  have hsl := own_sl hown
  have hpa := own_path hown
  obtain ⟨a0, n0, c0, rfl⟩ := hsl
  obtain ⟨s0, s1, s2, s3, b4, i5, b6, s8, s9, b10, b11, hx⟩ : ∃ s0 s1 s2 s3 b4 i5 b6 s8 s9 b10 b11, adrCells u (.slice a0 n0 c0) = [.string s0, .string s1, .string s2, .string s3, .bool b4, .int .i64 i5, .bool b6, .slice a0 n0 c0, .string s8, .string s9, .bool b10, .bool b11] := ⟨_, _, _, _, _, _, _, _, _, _, _, rfl⟩
  have hva : adrVal u (.slice a0 n0 c0) = .agg #[.string s0, .string s1, .string s2, .string s3, .bool b4, .int .i64 i5, .bool b6, .slice a0 n0 c0, .string s8, .string s9, .bool b10, .bool b11] := by unfold adrVal; rw [hx]
  have hb4 : Below w3.heap.size w3 (w3.alloc (.cells #[.string s0, .string s1, .string s2, .string s3, .bool b4, .int .i64 i5, .bool b6, .slice a0 n0 c0, .string s8, .string s9, .bool b10, .bool b11] 32)) := (Below.refl _ _).alloc (Nat.le_refl _) _
  have h4 : AdrIn (w3.alloc (.cells #[.string s0, .string s1, .string s2, .string s3, .bool b4, .int .i64 i5, .bool b6, .slice a0 n0 c0, .string s8, .string s9, .bool b10, .bool b11] 32)) w3.heap.size u (.slice a0 n0 c0) := by
    have := heap_alloc_new w3 (.cells #[.string s0, .string s1, .string s2, .string s3, .bool b4, .int .i64 i5, .bool b6, .slice a0 n0 c0, .string s8, .string s9, .bool b10, .bool b11] 32)
    unfold AdrIn
    rw [hx]
    exact this
  have hz4 : (w3.alloc (.cells #[.string s0, .string s1, .string s2, .string s3, .bool b4, .int .i64 i5, .bool b6, .slice a0 n0 c0, .string s8, .string s9, .bool b10, .bool b11] 32)).heap.size = w3.heap.size + 1 := by simp
  have hb5 : Below (w3.alloc (.cells #[.string s0, .string s1, .string s2, .string s3, .bool b4, .int .i64 i5, .bool b6, .slice a0 n0 c0, .string s8, .string s9, .bool b10, .bool b11] 32)).heap.size (w3.alloc (.cells #[.string s0, .string s1, .string s2, .string s3, .bool b4, .int .i64 i5, .bool b6, .slice a0 n0 c0, .string s8, .string s9, .bool b10, .bool b11] 32)) ((w3.alloc (.cells #[.string s0, .string s1, .string s2, .string s3, .bool b4, .int .i64 i5, .bool b6, .slice a0 n0 c0, .string s8, .string s9, .bool b10, .bool b11] 32)).alloc (.cells #[.slice none 0 0, .slice none 0 0, .int .i64 0, .bool false] 51)) := (Below.refl _ _).alloc (Nat.le_refl _) _
  have hp5 : ((w3.alloc (.cells #[.string s0, .string s1, .string s2, .string s3, .bool b4, .int .i64 i5, .bool b6, .slice a0 n0 c0, .string s8, .string s9, .bool b10, .bool b11] 32)).alloc (.cells #[.slice none 0 0, .slice none 0 0, .int .i64 0, .bool false] 51)).heap[w3.heap.size + 1]? = some (.cells #[.slice none 0 0, .slice none 0 0, .int .i64 0, .bool false] 51 (0, 0)) := by
    have := heap_alloc_new (w3.alloc (.cells #[.string s0, .string s1, .string s2, .string s3, .bool b4, .int .i64 i5, .bool b6, .slice a0 n0 c0, .string s8, .string s9, .bool b10, .bool b11] 32)) (.cells #[.slice none 0 0, .slice none 0 0, .int .i64 0, .bool false] 51)
    rw [hz4] at this
    exact this
  obtain ⟨W5, hW5⟩ : ∃ W, (w3.alloc (.cells #[.string s0, .string s1, .string s2, .string s3, .bool b4, .int .i64 i5, .bool b6, .slice a0 n0 c0, .string s8, .string s9, .bool b10, .bool b11] 32)).alloc (.cells #[.slice none 0 0, .slice none 0 0, .int .i64 0, .bool false] 51) = W := ⟨_, rfl⟩
  rw [hW5] at hb5 hp5
  have HA5 := hid (h4.kept hb5)
  have H4 := hid h4
  have H45 := hid hb5
  have HP3 := hid hpa
  have H35 := hid (below2 hb4 hb5)
  have HZ4 := hid hz4
  have HB5 := hid (below2 (below2 HB3.out hb4) hb5)
  have HBo := hid (show Bo W5 (w3.heap.size + 1) (w3.heap.size + 1) 0 [] [] l from ⟨Nat.le_refl _, rfl, ⟨_, _, hp5, World.ownsRow_nil _ _ _ _, World.ownsRow_nil _ _ _ _, .inl rfl⟩, fun x hx => by simp at hx, fun x hx => by simp at hx, List.Pairwise.nil⟩)
  have HX := hid hx
  have HRd2 := hid (fun w hg hG hp => HRd.out (.slice a0 n0 c0) w hg hG hp)
  rw [hva] at HRd2
  rw [hva]
  clear hva hx hpa hb4 hown hb3 HRd hb5 hp5 h4 hz4
  obtain ⟨P, hP⟩ : ∃ P, w3.heap.size + 1 = P := ⟨_, rfl⟩
  rw [hP] at HBo HZ4
  have HPw := hid hP
  have HPs := hid (show P < W5.heap.size from by have := (Array.getElem?_eq_some_iff.1 HBo.out.2.2.1.choose_spec.choose_spec.1).1; exact this)
  go_wp2_with fail
  clear hP hW5
  go_loopw [6] (fun i wr => ∃ k : Nat, k ≤ 2 ∧ i = .int .i64 k ∧ KSt P P l k wr ∧ Below P W5 wr) (fun i _ => 2 - (intOf i).toNat)
  case atStart => exact ⟨0, by decide, rfl, .inl ⟨rfl, HBo.out⟩, Below.refl _ _⟩
  case round =>
    obtain ⟨k, hk, rfl, hst, hbP⟩ := hrel
    have HBw := hid (show Below w.heap.size w wr from HB5.out.trans (hbP.mono (by have h1 := HB3.out.size; have h2 := HPw.out; omega)))
    have HBs := hid hbP.size
    have HA := hid (H4.out.kept (show Below _ _ wr from H45.out.trans (by rw [HZ4.out]; exact hbP)))
    have HPp := hid (HP3.out.kept (H35.out.trans (hbP.mono (by have h2 := HPw.out; omega))))
    have HbP := hid hbP
    have HSt := hid hst
    clear hst hbP
    by_cases hk2 : k < 2
    · have hk2' : (k : Int) < 2 := by omega
      have hcs := adr_cells HA.out
      rw [HX.out] at hcs
      have y0 := hcs 0 _ rfl
      have y1 := hcs 1 _ rfl
      have y2 := hcs 2 _ rfl
      have y3 := hcs 3 _ rfl
      have y4 := hcs 4 _ rfl
      have y5 := hcs 5 _ rfl
      have y6 := hcs 6 _ rfl
      have y7 := hcs 7 _ rfl
      have y8 := hcs 8 _ rfl
      have y9 := hcs 9 _ rfl
      have y10 := hcs 10 _ rfl
      have y11 := hcs 11 _ rfl
      clear hcs
      go_wp2_with fail
      refine (HRd2.out _ (Hg.out.kept HBw.out) (HG.out.kept HBw.out) HPp.out).mono ?_
      rintro e w6 ⟨hb6, ⟨ho, rfl⟩ | ⟨ho, v, sl, rfl, hown, hnew⟩⟩
      · rw [HK2.out] at ho; cases ho
      · rw [HK4.out] at hnew
        have hrx := hnew.rx
        obtain ⟨g, cap, rfl, hgb, hgc, hgm, hgr⟩ := hnew
        obtain ⟨v1, v2, v3, rfl⟩ := own_slice hown
        unfold knVal
        obtain ⟨A, hA⟩ : ∃ A, ba (typV (rdK u)).major = A := ⟨_, rfl⟩
        obtain ⟨M, hM⟩ : ∃ A, ba (typV (rdK u)).minor = A := ⟨_, rfl⟩
        rw [hA, hM]
        have hb7 : Below w6.heap.size w6 (w6.alloc (.cells #[.string A, .string M, .slice v1 v2 v3] 26)) := (Below.refl _ _).alloc (Nat.le_refl _) _
        have HRx := hid ((hrx.same (hb7.block _ hrx.lt)).low (show P ≤ wr.heap.size by have h1 := HBs.out; have h2 := HPs.out; omega))
        have HB67 := hid (below2 hb6 hb7)
        have HGe := hid (show wr.heap.size ≤ g from hgb)
        have HSz := hid (show P ≤ (w6.alloc (.cells #[.string A, .string M, .slice v1 v2 v3] 26)).heap.size by have h1 := HBs.out; have h2 := HPs.out; have h3 := (below2 hb6 hb7).size; omega)
        clear hA hM hb7 hb6 hrx hgb hgc hgm hgr hown ho y0 y1 y2 y3 y4 y5 y6 y7 y8 y9 y10 y11
        go_wp2_with fail
        rcases HSt.out with ⟨rfl, hbo⟩ | ⟨rfl, H, x0, y0, hbo⟩ | ⟨rfl, _⟩
        · refine (keep_0 P P 0 [] [] l g cap _ (hbo.below HB67.out) HRx.out (fun x hx => by simp at hx) (by have := HLL.out; omega) rfl HSz.out).mono ?_
          rintro e w8 ⟨rfl, ⟨H, y, hbo8⟩, hb8⟩
          have HK := hid (show KSt P P l 1 w8 from .inr (.inl ⟨rfl, H, _, y, hbo8⟩))
          have HB8 := hid (HbP.out.trans ((HB67.out.mono (by have h1 := HBs.out; have h2 := HPs.out; omega)).trans hb8))
          clear hbo8 hb8 hbo
          go_wp2_with fail
          exact ⟨⟨1, by decide, rfl, HK.out, HB8.out⟩, by decide⟩
        · have hx0 := hbo.2.2.2.1 x0 (by simp)
          refine (keep_1 P P H x0 y0 l g cap _ (hbo.below HB67.out) HRx.out (fun x hx => ?_) (by have := HLL.out; omega) HSz.out).mono ?_
          · obtain rfl : x = x0 := by simpa using hx
            intro e
            have h1 := hx0.lt
            have h2 := HGe.out
            rw [hx0.1.1] at e
            have e' : some (gOf x) = some g := e
            injection e' with e'
            omega
          rintro e w8 ⟨rfl, hk8, hb8⟩
          have HK := hid (show KSt P P l 2 w8 from .inr (.inr ⟨rfl, hk8⟩))
          have HB8 := hid (HbP.out.trans ((HB67.out.mono (by have h1 := HBs.out; have h2 := HPs.out; omega)).trans hb8))
          clear hk8 hb8 hbo
          go_wp2_with fail
          exact ⟨⟨2, by decide, rfl, HK.out, HB8.out⟩, by decide⟩
        · omega
    · have hk2' : ¬ (k : Int) < 2 := by omega
      go_wp2_with fail
      rcases HSt.out with ⟨rfl, hbo⟩ | ⟨rfl, H, x0, y0, hbo⟩ | ⟨rfl, H, gA, oA, cA, gY, oY, cY, xs, ys, hxl, hbv⟩
      · omega
      · omega
      refine (apart_g P P H gA oA cA gY oY cY xs ys l wr hbv (by omega) (by have := HLL.out; omega) (by have h1 := HBs.out; have h2 := HPs.out; omega)).mono ?_
      rintro e w8 ⟨rfl, hb8⟩
      have HB8 := hid (HB5.out.trans ((HbP.out.trans hb8).mono (by have h1 := HB3.out.size; have h2 := HPw.out; omega)))
      have HA8 := hid (H4.out.kept (show Below _ _ w8 from H45.out.trans (by rw [HZ4.out]; exact HbP.out.trans hb8)))
      have HPp8 := hid (HP3.out.kept (H35.out.trans ((HbP.out.trans hb8).mono (by have h2 := HPw.out; omega))))
      go_wp2_with fail
      refine (known_d w8 (Hg.out.kept HB8.out) (HG.out.kept HB8.out)).mono ?_
      rintro e w9 ⟨rfl, hb9⟩
      have HB9 := hid (below2 HB8.out hb9)
      clear hb9
      go_wp2_with fail
      go_ret
      exact ⟨rfl, HB9.out⟩

end Go.Proofs.YtjmkccnjjofmeaaGreatDoor
