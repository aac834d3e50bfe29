/-
  Walks and plain facts that this claim leans on, put together out of 17 texts: Bj, Cb, Yrg, Cg, Ha, Hb, Vb, Vj, Vc, Vd, Ve, Wb, Vf, Vg, Vh, Vi, Vk.
-/
import Derived.Test.YtpopljcmkbchcaaDoorProg
import Derived.Test.YtpopljcmkbchcaaDoorQa1
import Derived.Test.YtpopljcmkbchcaaDoorQa2
import Derived.BigRegion
import Derived.Deep.RegionHeld
import Derived.Deep.RegionHeldLaw
import Derived.WalkKit
import Derived.Lib.Strings
import Derived.Lib.UnsafeStr
import Derived.Laws.IdiomStrings
import Derived.Laws.AppendOwn
import Derived.Laws.BitsAllLaws
import Derived.Lib.Bytealg
import Derived.Lib.BufferMore
import Derived.LoopN
import Derived.Shelf.Strings.Builder1
import Derived.Shelf.Strings.Builder2
import Derived.Shelf.Strings.OnBuilder
import Derived.Shelf.Small.Utf8
import Derived.Shelf.Strings.BuilderF
import Derived.Shelf.Strings.BuilderK
import Derived.Shelf.Strings.BuilderRune
import Derived.Shelf.Utf8.AppendRune
import Derived.Shelf.Utf8.AppendRunePlain
import Derived.Shelf.Strings.Builder2Cap
import Derived.Shelf.Strconv.Itoa0
import Derived.Shelf.Strconv.Itoa1
import Derived.Shelf.LaysM
import Derived.Shelf.Strconv.Itoa2
import Derived.Shelf.Strconv.Itoa3
import Derived.Shelf.Unicode.Latin
import Derived.Shelf.Unicode.Decode
import Derived.Shelf.Unicode.DecodeSlow
import Derived.Shelf.Unicode.DecodeAny
import Derived.Shelf.Unicode.CaseLookup
import Derived.Shelf.Unicode.CaseConvert
import Derived.Shelf.Unicode.CaseTo
import Derived.Shelf.Unicode.CaseLaid
import Derived.WalkSpells
import Derived.WalkLawsBesides
import Derived.Lib.SlTrimSet
import Derived.Lib.Join
import Derived.Lib.IndexMore
import Derived.Laws.OwnMore
import Derived.Below
import Derived.WalkSmall
import Derived.Lib.SmallJoins
import Derived.Deep.QuietTactic
import Derived.BigQuiet
import Derived.Deep.LoopGhost
import Derived.Deep.MidRow
import Derived.Shelf.Strings.SlTrimAscii
import Derived.Deep.CutRange
import Derived.Laws.Rows
import Derived.Laws.CopyOwn
import Derived.Laws.MakeOwn
import Derived.Laws.RangeAny
import Derived.Lib.DecodeN
import Derived.Lib.OthersKept
import Derived.RegionTactic
import Derived.Deep.RegionWith
import Derived.Laws.Runes
import Derived.Deep.WholeRow
import Derived.Deep.RegionLaw
import Derived.Laws.AppendOwnNone
import Derived.Lib.IndexAny
import Derived.Lib.BufferRead
import Derived.Lib.RuneBytes
import Derived.Maps.OwnSet
import Derived.Maps.OwnOps
import Derived.Maps.AppendAt
import Derived.StringKeys
import Derived.Lib.FieldsP
import Derived.Laws.ResultCell
import Derived.Lib.LaidTab
import Derived.Lib.AppendIntMem
import Derived.Lib.FrozenHead2
import Derived.Lib.Builder
import Derived.Lib.AppendStr
import Derived.Lib.Replace
import Derived.Shelf.GgClosure.GivesRunes
import Derived.Laws.BitsAll
import Derived.Laws.Shifts
import Derived.Deep.DeepAppendRoom
import Derived.Laws.BytesString
import Derived.Laws.CopyRow
import Derived.Lib.LastIndexByte
import Derived.WalkMore
import Derived.OwnWalk
set_option linter.unusedSimpArgs false
set_option linter.unusedVariables false

namespace Go.Proofs.YtpopljcmkbchcaaDoor
open Go.RowKit

def SpI (s : List UInt8) (f i : Nat) (q : Bool) : Prop := f ≤ i ∧ i ≤ s.length ∧ cutQ false (s.drop f) = (cutQ q (s.drop i)).map (· + (i - f))

theorem SpI.start (s : List UInt8) (f : Nat) (h : f ≤ s.length) : SpI s f f false := ⟨Nat.le_refl _, h, by simp⟩

theorem SpI.last {s : List UInt8} {f : Nat} {q : Bool} (h : SpI s f s.length q) : pcs (s.drop f) = [s.drop f] := by
 obtain ⟨_, _, h3⟩ := h
 rw [List.drop_length] at h3
 refine pcs_none _ (h3.trans ?_)
 cases q <;> simp [cutQ]

theorem SpI.comma {s : List UInt8} {f i : Nat} (h : SpI s f i false) (hi : i < s.length) (hc : s[i] = 44) : pcs (s.drop f) = (s.drop f).take (i - f) :: pcs (s.drop (i + 1)) := by
 obtain ⟨h1, _, h3⟩ := h
 rw [List.drop_eq_getElem_cons hi, hc, cutQ_comma] at h3
 rw [pcs_some _ (i - f) (by rw [h3]; simp), List.drop_drop, show f + (i - f + 1) = i + 1 by omega]

theorem map_add {o : Option Nat} {a b c : Nat} (h : a + b = c) : (o.map (· + a)).map (· + b) = o.map (· + c) := by rw [map_map_add, h]

theorem SpI.step {s : List UInt8} {f i d : Nat} {q r : Bool} (h : SpI s f i q) (hd : i + d ≤ s.length) (hc : cutQ q (s.drop i) = (cutQ r (s.drop (i + d))).map (· + d)) : SpI s f (i + d) r := by
 obtain ⟨h1, h2, h3⟩ := h
 refine ⟨by omega, hd, ?_⟩
 rw [h3, hc]
 exact map_add (by omega)

theorem SpI.quote {s : List UInt8} {f i : Nat} {q : Bool} (h : SpI s f i q) (hi : i < s.length) (hc : s[i] = 34) : SpI s f (i + 1) (!q) := by
 refine h.step (by omega) ?_
 rw [List.drop_eq_getElem_cons hi, hc]
 cases q
 ·exact cutQ_open _
 ·exact cutQ_close _

theorem SpI.other {s : List UInt8} {f i : Nat} {q : Bool} (h : SpI s f i q) (hi : i < s.length) (h1 : s[i] ≠ 34) (h2 : q = false → s[i] ≠ 44) (h3 : q = true → s[i] ≠ 92) : SpI s f (i + 1) q := by
 refine h.step (by omega) ?_
 rw [List.drop_eq_getElem_cons hi]
 cases q
 ·exact cutQ_other _ _ (h2 rfl) h1
 ·exact cutQ_in _ _ h1 (h3 rfl)

end Go.Proofs.YtpopljcmkbchcaaDoor

namespace Go.Proofs.YtpopljcmkbchcaaDoor
open Go.RowKit

def quo : List UInt8 → List UInt8 × List UInt8
 | [] => ([], [])
 | [c] => if c = 34 then ([], []) else ([c], [])
 | c :: d :: r => if c = 34 then ([], d :: r) else if c = 92 then (d :: (quo r).1, (quo r).2) else (c :: (quo (d :: r)).1, (quo (d :: r)).2)

end Go.Proofs.YtpopljcmkbchcaaDoor

namespace Go.Proofs.YtpopljcmkbchcaaDoor

open Go.RowKit

end Go.Proofs.YtpopljcmkbchcaaDoor

namespace Go.Proofs.YtpopljcmkbchcaaDoor

open Go.RowKit

def But (b : Nat) (w w' : World) : Prop := Below b w w' ∧ ∀ k, b < k → k < w.heap.size → w'.heap[k]? = w.heap[k]?

theorem But.refl (b : Nat) (w : World) : But b w w := ⟨Below.refl _ _, fun _ _ _ => rfl⟩

theorem But.of {b : Nat} {w w' : World} (h : Below w.heap.size w w') (hb : b ≤ w.heap.size) : But b w w' := ⟨h.mono hb, fun k _ hk => h.block k hk⟩

theorem But.trans {b : Nat} {w w1 w2 : World} (h : But b w w1) (h2 : But b w1 w2) : But b w w2 :=
 ⟨h.1.trans h2.1, fun k hb hk => (h2.2 k hb (by have := h.1.size; omega)).trans (h.2 k hb hk)⟩

theorem But.then {b : Nat} {w w1 w2 : World} (h : But b w w1) (h2 : Below w1.heap.size w1 w2) (hb : b ≤ w1.heap.size) : But b w w2 := h.trans (But.of h2 hb)

theorem But.size {b : Nat} {w w1 : World} (h : But b w w1) : w.heap.size ≤ w1.heap.size := h.1.size

theorem But.block {b : Nat} {w w1 : World} (h : But b w w1) (k : Nat) (hk : k < w.heap.size) (hne : k ≠ b) : w1.heap[k]? = w.heap[k]? := by
 rcases Nat.lt_or_gt_of_ne hne with h1 | h1
 ·exact h.1.block k h1
 ·exact h.2 k h1 hk

theorem But.below {b B : Nat} {v w w1 : World} (h0 : Below B v w) (h : But b w w1) (hB : B ≤ b) : Below B v w1 := h0.trans (h.1.mono hB)

theorem But.own {b B n k : Nat} {e : TypeId} {v : Value} {xs : List Value} {w w1 : World} (h : But b w w1) (ho : w.ownsRow B e k v n xs) (hne : v.ownBlock ≠ some b) : w1.ownsRow B e k v n xs := by
 rcases ho.2 with h' | ⟨g, cap, cur, hv, hg, hrow, rest⟩
 ·exact ⟨ho.1, .inl h'⟩
 ·refine ⟨ho.1, .inr ⟨g, cap, cur, hv, hg, (h.block g (Array.getElem?_eq_some_iff.1 hrow).1 ?_).trans hrow, rest⟩⟩
  rintro rfl
  subst hv
  exact hne rfl

end Go.Proofs.YtpopljcmkbchcaaDoor

namespace Go.Proofs.YtpopljcmkbchcaaDoor

open Go.RowKit

def IsRow_Cb (k : IntKind) (w : World) (a : Option Addr) (len cap : Nat) (zs : List Int) : Prop :=
 (a = none ∧ len = 0 ∧ cap = 0 ∧ zs = []) ∨
 ∃ x, a = some x ∧ len ≤ cap ∧ cap ≤ maxLen ∧ zs.length = cap ∧ (∀ i, i < zs.length → w.cell? (x.add i) = some (.int k (zs.getD i 0))) ∧ ∀ n ∈ zs, (Lit.int k n).wf = true

theorem IsRow_Cb.block {k : IntKind} {w : World} {a : Option Addr} {len cap : Nat} {zs : List Int} (h : IsRow_Cb k w a len cap zs) {y : Addr} (hy : a = some y) {j : Nat} (hj : j < zs.length) : (y.add j).block < w.heap.size := by
 rcases h with ⟨rfl, _⟩ | ⟨x, rfl, _, _, _, hcell, _⟩
 ·cases hy
 ·obtain rfl := Option.some.inj hy
  exact World.block_lt_of_cell? w _ (hcell j hj)

end Go.Proofs.YtpopljcmkbchcaaDoor

namespace Go.Proofs.YtpopljcmkbchcaaDoor

open Go.RowKit

def SlB_Cb (w : World) (v : Value) (l : List UInt8) : Prop :=
 (∃ c, v = .slice none 0 c ∧ l = []) ∨ ∃ x cap, v = .slice (some x) l.length cap ∧ ∀ j (h : j < l.length), w.cell? (x.add j) = some (.int .u8 (l[j].toNat : Int))

theorem SlB_Cb.string {P : Program} {w : World} {v : Value} {l : List UInt8} {e src dst : TypeId} (h : SlB_Cb w v l) (hs : P.underlying src = some (.slice e)) (he : P.underlying e = some (.int .u8)) (hd : P.underlying dst = some .string) :
  (convert src dst v).run P w = .ok (.string ⟨l.toArray⟩) w := by
 rcases h with ⟨c, rfl, rfl⟩ | ⟨x, cap, rfl, hc⟩
 ·exact Lib.run_convert_nil_bytes w src dst e c hs he hd
 ·exact run_convert_bytes_back w src dst e x cap l hs he hd hc

theorem SlB_Cb.below {w w' : World} {v : Value} {l : List UInt8} {B : Nat} (h : SlB_Cb w v l) (hb : Below B w w') (hB : ∀ x n c, v = .slice (some x) n c → ∀ j, j < l.length → (x.add j).block < B) : SlB_Cb w' v l := by
 rcases h with h | ⟨x, cap, rfl, hc⟩
 ·exact .inl h
 ·exact .inr ⟨x, cap, rfl, fun j hj => (hb.cell (hB x _ _ rfl j hj)).trans (hc j hj)⟩

theorem SlB_Cb.kept {w w' : World} {v : Value} {l : List UInt8} (h : SlB_Cb w v l) (hb : Below w.heap.size w w') : SlB_Cb w' v l := by
 refine h.below hb ?_
 rcases h with ⟨c, rfl, rfl⟩ | ⟨x, cap, rfl, hc⟩
 ·intro x n c' e j hj; simp at hj
 ·intro x' n c' e j hj
  obtain ⟨e1, _, _⟩ := Value.slice.inj e
  obtain rfl := Option.some.inj e1
  exact World.block_lt_of_cell? w _ (hc j hj)

theorem SlB_Cb.alloc {w : World} {v : Value} {l : List UInt8} (h : SlB_Cb w v l) (o : Obj) : SlB_Cb (w.alloc o) v l := h.kept ((Below.refl _ w).alloc (Nat.le_refl _) o)

theorem SlB_Cb.len {w : World} {v : Value} {l : List UInt8} (h : SlB_Cb w v l) : ∃ a cap, v = .slice a l.length cap := by
 rcases h with ⟨c, rfl, rfl⟩ | ⟨x, cap, rfl, hc⟩
 ·exact ⟨none, c, rfl⟩
 ·exact ⟨some x, cap, rfl⟩

theorem SlB_Cb.own {w : World} {B : Nat} {e : TypeId} {v : Value} {l : List UInt8} (h : w.ownsRow B e 1 v l.length (Lib.byteCells l)) : SlB_Cb w v l := by
 rcases h.2 with ⟨rfl, h0⟩ | ⟨g, cap, cur, rfl, _⟩
 ·exact .inl ⟨0, rfl, List.eq_nil_of_length_eq_zero h0⟩
 ·exact .inr ⟨_, cap, rfl, fun j hj => h.cells (g := g) rfl j _ (by simp [Lib.byteCells, hj])⟩

theorem SlB_Cb.take {w : World} {a : Option Addr} {len cap : Nat} {l : List UInt8} (h : SlB_Cb w (.slice a len cap) l) (n : Nat) (hn : n < l.length) : SlB_Cb w (.slice a n cap) (l.take n) := by
 rcases h with ⟨c, e, rfl⟩ | ⟨x, c, e, hc⟩
 ·simp at hn
 ·obtain ⟨rfl, rfl, rfl⟩ := Value.slice.inj e
  refine .inr ⟨x, cap, by congr 1; simp; omega, fun j hj => ?_⟩
  have hj' : j < l.length := by simp at hj; omega
  rw [hc j hj']; simp

theorem IsRow_Cb.bytes {w : World} {a : Option Addr} {len cap : Nat} {zs : List Int} (h : IsRow_Cb .u8 w a len cap zs) : ∃ l : List UInt8, l.length = len ∧ SlB_Cb w (.slice a len cap) l ∧ len ≤ cap ∧ cap ≤ maxLen := by
 rcases h with ⟨rfl, rfl, rfl, rfl⟩ | ⟨x, rfl, hlc, hcm, hz, hcell, hwf⟩
 ·exact ⟨[], rfl, .inl ⟨0, rfl, rfl⟩, Nat.le_refl _, by unfold maxLen; omega⟩
 ·refine ⟨(zs.take len).map fun n => UInt8.ofNat n.toNat, by simp; omega, .inr ⟨x, cap, by congr 1; simp; omega, ?_⟩, hlc, hcm⟩
  intro j hj
  have hj' : j < len ∧ j < zs.length := by simp at hj; omega
  have hwfj := hwf zs[j] (List.getElem_mem hj'.2)
  have hb : 0 ≤ zs[j] ∧ zs[j] ≤ 255 := by simpa [Lit.wf, IntKind.min, IntKind.max, IntKind.bits, IntKind.signed] using hwfj
  rw [hcell j hj'.2]
  have e : zs.getD j 0 = zs[j] := by simp [List.getD, hj'.2]
  rw [e]
  congr 2
  simp
  omega

end Go.Proofs.YtpopljcmkbchcaaDoor

namespace Go.Proofs.YtpopljcmkbchcaaDoor

open Go.RowKit

def QR (A B out l : List UInt8) : Prop := out ++ (quo l).1 = A ∧ (quo l).2 = B

theorem QR.start (l : List UInt8) : QR (quo l).1 (quo l).2 [] l := ⟨rfl, rfl⟩

theorem QR.one {A B out : List UInt8} {c : UInt8} (h : QR A B out [c]) (hc : c ≠ 34) : QR A B (out ++ [c]) [] := by
 obtain ⟨h1, h2⟩ := h
 rw [quo, if_neg hc] at h1 h2
 exact ⟨by rw [← h1]; simp [quo], h2⟩

theorem QR.nil {A B out : List UInt8} (h : QR A B out []) : out = A ∧ B = [] := by
 obtain ⟨h1, h2⟩ := h
 exact ⟨by simpa [quo] using h1, h2.symm⟩

theorem But.grown {b : Nat} {w w1 w2 : World} {row : Option Nat} (h : But b w w1) (hg : w1.grownBy w2 row) (hr : ∀ k, row = some k → w.heap.size ≤ k) (hb : b < w.heap.size) : But b w w2 := by
 have h1 := h.1.size
 refine ⟨h.1.grown hg (by omega) (fun k hk => by have := hr k hk; omega), fun k hk1 hk2 => ?_⟩
 rw [hg.block k (by omega) (fun e => by have := hr k e.symm; omega)]
 exact h.2 k hk1 hk2

theorem But.alloc {b : Nat} {w w1 : World} (h : But b w w1) (o : Obj) (hb : b ≤ w1.heap.size) : But b w (w1.alloc o) := h.then ((Below.refl _ w1).alloc (Nat.le_refl _) o) hb

end Go.Proofs.YtpopljcmkbchcaaDoor

namespace Go.Proofs.YtpopljcmkbchcaaDoor

open Go.RowKit

end Go.Proofs.YtpopljcmkbchcaaDoor

namespace Go.Proofs.YtpopljcmkbchcaaDoor

open Go.RowKit Go.Maps Go.WideMaps

theorem But.map {b B n : Nat} {D : DataW Unit} {w w1 : World} (h : But b w w1) (ho : w.ownsMap Tryd.prog 9 unitElem B n D) (hne : B ≠ b) : w1.ownsMap Tryd.prog 9 unitElem B n D := by
 obtain ⟨es, clock, hb, rest⟩ := ho
 exact ⟨es, clock, (h.block B (Array.getElem?_eq_some_iff.1 hb).1 hne).trans hb, rest⟩

end Go.Proofs.YtpopljcmkbchcaaDoor

namespace Go.Proofs.YtpopljcmkbchcaaDoor

open Go.RowKit

end Go.Proofs.YtpopljcmkbchcaaDoor

namespace Go.Proofs.YtpopljcmkbchcaaDoor

open Go.RowKit

end Go.Proofs.YtpopljcmkbchcaaDoor

namespace Go.Proofs.YtpopljcmkbchcaaDoor

open Go.RowKit

end Go.Proofs.YtpopljcmkbchcaaDoor

namespace Go.Proofs.YtpopljcmkbchcaaDoor

open Go.RowKit

end Go.Proofs.YtpopljcmkbchcaaDoor

namespace Go.Proofs.YtpopljcmkbchcaaDoor

open Go.RowKit

end Go.Proofs.YtpopljcmkbchcaaDoor

namespace Go.Proofs.YtpopljcmkbchcaaDoor

open Go.RowKit

end Go.Proofs.YtpopljcmkbchcaaDoor

namespace Go.Proofs.YtpopljcmkbchcaaDoor

open Go.RowKit

end Go.Proofs.YtpopljcmkbchcaaDoor

namespace Go.Proofs.YtpopljcmkbchcaaDoor

open Go.RowKit

end Go.Proofs.YtpopljcmkbchcaaDoor

namespace Go.Proofs.YtpopljcmkbchcaaDoor

open Go.RowKit

end Go.Proofs.YtpopljcmkbchcaaDoor

namespace Go.Proofs.YtpopljcmkbchcaaDoor

open Go.RowKit

end Go.Proofs.YtpopljcmkbchcaaDoor

namespace Go.Proofs.YtpopljcmkbchcaaDoor

open Go.RowKit

end Go.Proofs.YtpopljcmkbchcaaDoor

namespace Go.Proofs.YtpopljcmkbchcaaDoor

open Go.RowKit

end Go.Proofs.YtpopljcmkbchcaaDoor

namespace Go.Proofs.YtpopljcmkbchcaaDoor

open Go.RowKit

end Go.Proofs.YtpopljcmkbchcaaDoor

namespace Go.Proofs.YtpopljcmkbchcaaDoor

open Go.RowKit

end Go.Proofs.YtpopljcmkbchcaaDoor

namespace Go.Proofs.YtpopljcmkbchcaaDoor

open Go.RowKit

end Go.Proofs.YtpopljcmkbchcaaDoor

namespace Go.Proofs.YtpopljcmkbchcaaDoor

open Go.RowKit

end Go.Proofs.YtpopljcmkbchcaaDoor

namespace Go.Proofs.YtpopljcmkbchcaaDoor

open Go.RowKit

end Go.Proofs.YtpopljcmkbchcaaDoor

namespace Go.Proofs.YtpopljcmkbchcaaDoor

open Go.RowKit

end Go.Proofs.YtpopljcmkbchcaaDoor

namespace Go.Proofs.YtpopljcmkbchcaaDoor

open Go.RowKit

end Go.Proofs.YtpopljcmkbchcaaDoor

namespace Go.Proofs.YtpopljcmkbchcaaDoor

open Go.RowKit

end Go.Proofs.YtpopljcmkbchcaaDoor

namespace Go.Proofs.YtpopljcmkbchcaaDoor

open Go.RowKit

end Go.Proofs.YtpopljcmkbchcaaDoor

namespace Go.Proofs.YtpopljcmkbchcaaDoor

open Go.RowKit

structure Three where
 (a b c : Nat)

structure Kd where
 W : Nat
 R : Nat
 s0 : Three
 s1 : Three
 g0 : Three
 g1 : Three

def Kd.B (k : Kd) : Nat := k.W / 8

def Kd.size (k : Kd) : Nat := 16 * k.B

end Go.Proofs.YtpopljcmkbchcaaDoor

namespace Go.Proofs.YtpopljcmkbchcaaDoor

open Go.RowKit

structure It where
 bits : Int
 want : List UInt8
 opt : List UInt8

end Go.Proofs.YtpopljcmkbchcaaDoor

namespace Go.Proofs.YtpopljcmkbchcaaDoor

open Go.RowKit

theorem row_kept_Cb {w w' : World} {g : Nat} {o : Obj} (h : w.heap[g]? = some o) (hb : Below w.heap.size w w') : w'.heap[g]? = some o := by
 have hlt : g < w.heap.size := by
  rcases Nat.lt_or_ge g w.heap.size with h' | h'
  ·exact h'
  ·rw [Array.getElem?_eq_none h'] at h; cases h
 rw [hb.block g hlt]; exact h

theorem there_row_Cb {w : World} {g n : Nat} {cs : Array Value} {t : TypeId} (h : w.heap[g]? = some (.cells cs t (0, 0))) (hn : n ≤ cs.size) : w.there g 0 n := by
 intro j hj
 constructor
 ·rw [cell_of_row w g _ cs t _ h]; simp; omega
 ·simp [World.frozen?, h]

theorem range_row_Cb {w : World} {g : Nat} {cs : List Value} {t : TypeId} {f : Nat × Nat} (h : w.heap[g]? = some (.cells cs.toArray t f)) : w.rangeAt g 0 cs := by
 intro j v hv
 rw [Nat.zero_add, cell_of_row w g j _ t _ h]
 simpa using hv

theorem kept_cell {w w' : World} {a : Addr} {v : Value} (h : w.cell? a = some v) (hb : Below w.heap.size w w') : w'.cell? a = some v := (hb.cell (World.block_lt_of_cell? w _ h)).trans h

end Go.Proofs.YtpopljcmkbchcaaDoor

namespace Go.Proofs.YtpopljcmkbchcaaDoor

open Go.RowKit

def ItAt (w : World) (v : Value) (L : List It) : Prop :=
 ∃ a cap, v = .slice a L.length cap ∧ L.length ≤ cap ∧ cap ≤ maxLen ∧ ∀ j (hj : j < L.length), ∃ b off, a = some ⟨b, off, none⟩ ∧ w.cell? ⟨b, off + j * 3, none⟩ = some (.int .i64 L[j].bits) ∧ w.cell? ⟨b, off + j * 3 + 1, none⟩ = some (.string ⟨L[j].want.toArray⟩) ∧ w.cell? ⟨b, off + j * 3 + 2, none⟩ = some (.string ⟨L[j].opt.toArray⟩)

theorem ItAt.view {w : World} {v : Value} {L : List It} (h : ItAt w v L) : ∃ a cap, v = .slice a L.length cap ∧ L.length ≤ cap ∧ cap ≤ maxLen ∧ ∀ j (hj : j < L.length), ∃ b off, a = some ⟨b, off, none⟩ ∧ w.cell? ⟨b, off + j * 3, none⟩ = some (.int .i64 L[j].bits) ∧ w.cell? ⟨b, off + j * 3 + 1, none⟩ = some (.string ⟨L[j].want.toArray⟩) ∧ w.cell? ⟨b, off + j * 3 + 2, none⟩ = some (.string ⟨L[j].opt.toArray⟩) := h

theorem ItAt.kept {w w' : World} {v : Value} {L : List It} (h : ItAt w v L) (hb : Below w.heap.size w w') : ItAt w' v L := by
 obtain ⟨a, cap, h1, h2, h3, h4⟩ := h
 refine ⟨a, cap, h1, h2, h3, fun j hj => ?_⟩
 obtain ⟨b, off, e, c1, c2, c3⟩ := h4 j hj
 exact ⟨b, off, e, kept_cell c1 hb, kept_cell c2 hb, kept_cell c3 hb⟩

def Gm (w : World) : Prop := ∃ m, w.cell? ⟨1, 0, none⟩ = some (.int .i64 m)

theorem Gm.kept {w w' : World} (h : Gm w) (hb : Below w.heap.size w w') : Gm w' := by
 obtain ⟨m, hm⟩ := h
 exact ⟨m, kept_cell hm hb⟩

end Go.Proofs.YtpopljcmkbchcaaDoor

namespace Go.Proofs.YtpopljcmkbchcaaDoor

open Go.RowKit

def cW (K : IntKind) (l : List Nat) : List Value := l.map fun (n : Nat) => .int K (n : Int)

theorem cW_len (K : IntKind) (l : List Nat) : (cW K l).length = l.length := by simp [cW]

def Rw (w : World) (g : Nat) (K : IntKind) (t : TypeId) (l : List Nat) : Prop := w.heap[g]? = some (.cells (cW K l).toArray t (0, 0))

theorem Rw.lt {w : World} {g : Nat} {K : IntKind} {t : TypeId} {l : List Nat} (h : Rw w g K t l) : g < w.heap.size := (Array.getElem?_eq_some_iff.1 h).1

theorem Rw.kept {w w' : World} {g : Nat} {K : IntKind} {t : TypeId} {l : List Nat} (h : Rw w g K t l) (hb : Below w.heap.size w w') : Rw w' g K t l := row_kept_Cb h hb

theorem Rw.drew {w : World} {g : Nat} {K : IntKind} {t : TypeId} {l : List Nat} (h : Rw w g K t l) : Rw w.drew g K t l := h

theorem Rw.cell {w : World} {g : Nat} {K : IntKind} {t : TypeId} {l : List Nat} (h : Rw w g K t l) (i : Nat) (hi : i < l.length) : w.cell? ⟨g, i, none⟩ = some (.int K (l.getD i 0 : Nat)) := by
 rw [cell_of_row w g i _ t _ h]
 simp [cW, hi]

theorem Rw.new (w : World) (K : IntKind) (t : TypeId) (l : List Nat) : Rw (w.alloc (.cells (cW K l).toArray t)) w.heap.size K t l := heap_alloc_new w _

theorem Rw.there {w : World} {g : Nat} {K : IntKind} {t : TypeId} {l : List Nat} (h : Rw w g K t l) (n : Nat) (hn : n = l.length) : w.there g 0 n := there_row_Cb h (by simp [cW_len, hn])

theorem Rw.range {w : World} {g : Nat} {K : IntKind} {t : TypeId} {l : List Nat} (h : Rw w g K t l) : w.rangeAt g 0 (cW K l) := range_row_Cb h

def But1 (wr : World) (a : Addr) (u : Value) (X : World) : Prop := Below wr.heap.size (wr.setCell a u) (X.setCell a u)

theorem But1.start (wr : World) (a : Addr) (u : Value) : But1 wr a u wr.drew := ⟨rfl, rfl, rfl, Nat.le_refl _, fun k hk => rfl⟩

theorem size_setCell (w : World) (a : Addr) (u : Value) : (w.setCell a u).heap.size = w.heap.size := by simp [World.setCell]

theorem But1.size {wr X : World} {a : Addr} {u : Value} (h : But1 wr a u X) : wr.heap.size ≤ X.heap.size := by
 have := Below.size h
 rwa [size_setCell, size_setCell] at this

theorem But1.cell {wr X : World} {a : Addr} {u v : Value} (h : But1 wr a u X) {p : Addr} (hp : wr.cell? p = some v) (hne : a ≠ p) : X.cell? p = some v := by
 have h1 := Below.cell h (p := p) (World.block_lt_of_cell? wr p hp)
 rw [World.cell?_setCell_other _ _ _ _ hne, World.cell?_setCell_other _ _ _ _ hne] at h1
 rw [h1]; exact hp

end Go.Proofs.YtpopljcmkbchcaaDoor

namespace Go.Proofs.YtpopljcmkbchcaaDoor

open Go.RowKit

end Go.Proofs.YtpopljcmkbchcaaDoor

namespace Go.Proofs.YtpopljcmkbchcaaDoor

open Go.RowKit

theorem SlB_Cb.at {w : World} {a : Option Addr} {n c : Nat} {l : List UInt8} (h : SlB_Cb w (.slice a n c) l) (k : Nat) (hk : k < l.length) : ∃ x, a = some x ∧ w.cell? (x.add k) = some (.int .u8 (l[k].toNat : Int)) := by
 rcases h with ⟨c, e, rfl⟩ | ⟨x, c, e, hc⟩
 ·simp at hk
 ·obtain ⟨rfl, _, _⟩ := Value.slice.inj e
  exact ⟨x, rfl, hc k hk⟩

end Go.Proofs.YtpopljcmkbchcaaDoor

namespace Go.Proofs.YtpopljcmkbchcaaDoor

open Go.RowKit

end Go.Proofs.YtpopljcmkbchcaaDoor

namespace Go.Proofs.YtpopljcmkbchcaaDoor

open Go.RowKit

def RtAt (w : World) (v : Value) (L : List It) : Prop :=
 ∃ a cap, v = .slice a L.length cap ∧ L.length ≤ cap ∧ cap ≤ maxLen ∧ ∀ j (hj : j < L.length), ∃ b off, a = some ⟨b, off, none⟩ ∧ w.cell? ⟨b, off + j * 3, none⟩ = some (.int .i64 L[j].bits) ∧ w.cell? ⟨b, off + j * 3 + 1, none⟩ = some (.string ⟨L[j].want.toArray⟩) ∧ w.cell? ⟨b, off + j * 3 + 2, none⟩ = some (.string ⟨L[j].opt.toArray⟩)

theorem RtAt.view {w : World} {v : Value} {L : List It} (h : RtAt w v L) : ∃ a cap, v = .slice a L.length cap ∧ L.length ≤ cap ∧ cap ≤ maxLen ∧ ∀ j (hj : j < L.length), ∃ b off, a = some ⟨b, off, none⟩ ∧ w.cell? ⟨b, off + j * 3, none⟩ = some (.int .i64 L[j].bits) ∧ w.cell? ⟨b, off + j * 3 + 1, none⟩ = some (.string ⟨L[j].want.toArray⟩) ∧ w.cell? ⟨b, off + j * 3 + 2, none⟩ = some (.string ⟨L[j].opt.toArray⟩) := h

end Go.Proofs.YtpopljcmkbchcaaDoor

namespace Go.Proofs.YtpopljcmkbchcaaDoor

open Go.RowKit

def Gp (w : World) : Prop := Lib.TabIs Tryd.prog w "internal/strconv.uint64pow10" .u64 Lib.pow10Tab

theorem gPow9 : Tryd.prog.globalNamed "internal/strconv.uint64pow10" = some 4 := by kernel_rfl

theorem Gp.kept {w w' : World} (h : Gp w) (hb : Below w.heap.size w w') : Gp w' := Joins.tab_stays gPow9 h hb (Nat.le_refl _)

end Go.Proofs.YtpopljcmkbchcaaDoor

namespace Go.Proofs.YtpopljcmkbchcaaDoor

open Go.RowKit

end Go.Proofs.YtpopljcmkbchcaaDoor

namespace Go.Proofs.YtpopljcmkbchcaaDoor
open Go.RowKit

theorem wpAnyH_to {P : Program} {md : Region.Mode} {ops : Array Oper} {Q : Exit → Act → World → Prop} {S : World → Prop} {fuel fuel' : Nat} {listed listed' : Array Bool} {a : Act} {w : World} (hf : fuel = fuel') (hl : listed = listed') (h : wpAnyH P md ops Q S fuel' listed' a w) : wpAnyH P md ops Q S fuel listed a w := by
 subst hf; subst hl; exact h

end Go.Proofs.YtpopljcmkbchcaaDoor

namespace Go.Proofs.YtpopljcmkbchcaaDoor
open Go.RowKit

def SoI (w : World) (vv : Value) (O : List (List UInt8)) (wr : World) : Prop := wr.ownsRow w.heap.size 9 1 vv O.length (cellsT O) ∧ Below w.heap.size w wr

theorem SoI.drewN {w wr : World} {vv : Value} {O : List (List UInt8)} (h : SoI w vv O wr) (n : Nat) : SoI w vv O (wr.drewN n) := ⟨h.1, Go.below_drewN h.2 n⟩

end Go.Proofs.YtpopljcmkbchcaaDoor

namespace Go.Proofs.YtpopljcmkbchcaaDoor
def forbL : List UInt8 := [0, 9, 10, 13, 32, 35, 47, 58, 60, 62, 63, 64, 91, 92, 93, 94, 124]

def forb (c : UInt8) : Bool := decide (0 ≤ Lib.indexByte forbL c)

def dig16 (c : UInt8) : Nat :=
 if 48 ≤ c.toNat ∧ c.toNat ≤ 57 then c.toNat - 48 else if 97 ≤ c.toNat ∧ c.toNat ≤ 102 then c.toNat - 87 else if 65 ≤ c.toNat ∧ c.toNat ≤ 70 then c.toNat - 55 else 16

def valN (base : Nat) : Nat → List UInt8 → Option Nat
 | n, [] => some n
 | n, c :: l => if dig16 c < base then valN base (min (n * base + dig16 c) 4294967296) l else none

def valV (base : Nat) (l : List UInt8) : Option Nat := valN base 0 l

def marked (l : List UInt8) : Bool := Lib.hasPrefix l [48, 120] || Lib.hasPrefix l [48, 88]

def numV (l : List UInt8) : Option Nat :=
 if marked l then valV 16 (l.drop 2)
 else match l with
  | [] => none
  | c :: r => if c = 48 then valV 8 r else valV 10 (c :: r)

def fourN : Nat → Nat → List UInt8 → Option Nat
 | 0, _, _ => none
 | r + 1, high, rest =>
  match numV (Lib.cut rest [46]).1 with
  | none => none
  | some n =>
   if (Lib.cut rest [46]).2.2 then (if 255 < n then none else fourN r (high * 256 + n) (Lib.cut rest [46]).2.1)
   else if n < 2 ^ (8 * (r + 1)) then some (high * 2 ^ (8 * (r + 1)) + n) else none

def noDot (l : List UInt8) : List UInt8 := Lib.trimSuffix l [46]

def fourV (l : List UInt8) : Option Nat := fourN 4 0 (noDot l)

def lastLab (l : List UInt8) : List UInt8 := (l.reverse.takeWhile (· != 46)).reverse

def numberedV (l : List UInt8) : Bool :=
 if marked (lastLab (noDot l)) then (valV 16 ((lastLab (noDot l)).drop 2)).isSome
 else decide (lastLab (noDot l) ≠ []) && (valV 10 (lastLab (noDot l))).isSome

def dec8 (n : Nat) : List UInt8 :=
 if n < 10 then [UInt8.ofNat (48 + n)] else if n < 100 then [UInt8.ofNat (48 + n / 10), UInt8.ofNat (48 + n % 10)] else [UInt8.ofNat (48 + n / 100), UInt8.ofNat (48 + n / 10 % 10), UInt8.ofNat (48 + n % 10)]

def text4 (n : Nat) : List UInt8 := dec8 (n / 16777216 % 256) ++ 46 :: (dec8 (n / 65536 % 256) ++ 46 :: (dec8 (n / 256 % 256) ++ 46 :: dec8 (n % 256)))

def plainB (l : List UInt8) : Option Nat :=
 match valV 10 l with
 | none => none
 | some n => if 255 < n ∨ l = [] ∨ (l.head? = some 48 ∧ l ≠ [48]) then none else some n

def dotN : Nat → Nat → List UInt8 → Option Nat
 | 0, n, _ => some n
 | r + 1, n, rest =>
  match plainB (Lib.cut rest [46]).1 with
  | none => none
  | some b => if (Lib.cut rest [46]).2.2 = decide (r ≠ 0) then dotN r (n * 256 + b) (Lib.cut rest [46]).2.1 else none

def dottedV (l : List UInt8) : Option Nat := dotN 4 0 l

def scanP (whole : Option Nat) (last : Bool) : Nat → Nat → List UInt8 → Option (List Nat)
 | i, n, [] => if i = 0 then none else some [n]
 | i, n, c :: l =>
  if c = 46 ∧ last = true then whole.map fun m => [m / 65536, m % 65536]
  else if dig16 c < 16 ∧ i ≠ 4 then scanP whole last (i + 1) (n * 16 + dig16 c) l else none

def pieceV (last : Bool) (p : List UInt8) : Option (List Nat) := scanP (dottedV p) last 0 0 p

def piecesN (atEnd : Bool) : Nat → List Nat → List UInt8 → Bool → Option (List Nat)
 | _, out, _, false => some out
 | 0, _, _, true => none
 | f + 1, out, rest, true =>
  match pieceV (atEnd && !(Lib.cut rest [58]).2.2) (Lib.cut rest [58]).1 with
  | none => none
  | some ns => piecesN atEnd f (out ++ ns) (Lib.cut rest [58]).2.1 (Lib.cut rest [58]).2.2

def piecesV (l : List UInt8) (atEnd : Bool) : Option (List Nat) := piecesN atEnd 8 [] l (decide (l ≠ []))

def sixV (l : List UInt8) : Option (List Nat) :=
 match piecesV (Lib.cut l [58, 58]).1 (!(Lib.cut l [58, 58]).2.2), piecesV (Lib.cut l [58, 58]).2.1 true with
 | some a, some b =>
  if a.length + b.length ≤ 8 ∧ ((Lib.cut l [58, 58]).2.2 = true ↔ a.length + b.length < 8) then some (a ++ List.replicate (8 - a.length - b.length) 0 ++ b) else none
 | _, _ => none

def digC (n : Nat) : UInt8 := if n < 10 then UInt8.ofNat (48 + n) else UInt8.ofNat (87 + n)

def digsN (base : Nat) : Nat → Nat → List UInt8 → List UInt8
 | 0, _, acc => acc
 | f + 1, n, acc => if n < base then digC n :: acc else digsN base f (n / base) (digC (n % base) :: acc)

def hex16 (n : Nat) : List UInt8 := digsN 16 4 n []

def zeros : List Nat → Nat
 | [] => 0
 | n :: l => if n = 0 then zeros l + 1 else 0

def lrunN : Nat → Nat → Nat → Nat → List Nat → Nat × Nat
 | _, _, fr, tu, [] => (fr, tu)
 | f, i, fr, tu, n :: l =>
  if max (tu - fr) 1 < zeros (n :: l) then lrunN f (i + 1) i (i + zeros (n :: l)) l else lrunN f (i + 1) fr tu l

def lrun (x : List Nat) : Nat × Nat := lrunN 0 0 0 0 x

def joined (x : List Nat) : List UInt8 := Lib.join (x.map hex16) [58]

def text6 (x : List Nat) : List UInt8 :=
 if (lrun x).1 = (lrun x).2 then joined x else joined (x.take (lrun x).1) ++ ([58, 58] ++ joined (x.drop (lrun x).2))

def nameB (c : UInt8) : Bool := !(decide (c.toNat < 33) || (decide (126 < c.toNat) || (c == 37 || forb c)))

def coded (l : List UInt8) : Bool := Lib.hasPrefix l [120, 110, 45, 45] || Lib.contains l [46, 120, 110, 45, 45]

def allN (l : List UInt8) : Bool := l.all nameB

def nameV (l : List UInt8) : Option (List UInt8) :=
 if l = [] ∨ allN l = false ∨ coded l = true then none
 else if numberedV l then (fourV l).map text4 else some l

def otherV (l : List UInt8) : Option (List UInt8) := if l.any forb then none else some (pct 1 l)

def bracketV (l : List UInt8) : Option (List UInt8) :=
 if Lib.hasSuffix l [93] then (sixV (Lib.trimSuffix l [93])).map fun x => 91 :: (text6 x ++ [93]) else none

def parseV (l : List UInt8) (special : Bool) : Option (List UInt8) :=
 if Lib.hasPrefix l [91] then bracketV (l.drop 1) else if special then nameV (low (unpct l)) else otherV l

end Go.Proofs.YtpopljcmkbchcaaDoor

namespace Go.Proofs.YtpopljcmkbchcaaDoor
theorem ba_ext {a : ByteArray} {l : List UInt8} (h : a.data.toList = l) : a = ⟨l.toArray⟩ := by
 subst h; exact (Lib.mk_data a).symm

theorem lastLab_none (l : List UInt8) (h : ∀ c ∈ l, c ≠ 46) : lastLab l = l := by
 unfold lastLab
 have e := List.takeWhile_append_of_pos (p := fun x : UInt8 => x != 46) (l₁ := l.reverse) (l₂ := []) (by intro c hc; have := h c (by simpa using hc); simpa using this)
 rw [List.append_nil] at e
 rw [e]
 simp

theorem lastLab_some (a l : List UInt8) (h : ∀ c ∈ l, c ≠ 46) : lastLab (a ++ 46 :: l) = l := by
 unfold lastLab
 have e : (a ++ 46 :: l).reverse = l.reverse ++ 46 :: a.reverse := by simp
 rw [e, List.takeWhile_append_of_pos (by intro c hc; have := h c (by simpa using hc); simpa using this)]
 simp

def er {α : Type} (o : Option α) : Int := match o with | some _ => 0 | none => 10

theorem noDot_le (l : List UInt8) : (noDot l).length ≤ l.length := Lib.trimSuffix_le _ _

theorem cut_le (l sep : List UInt8) : (Lib.cut l sep).1.length ≤ l.length ∧ (Lib.cut l sep).2.1.length ≤ l.length := by
 unfold Lib.cut
 split
 ·simp
  omega
 ·simp

end Go.Proofs.YtpopljcmkbchcaaDoor

namespace Go.Proofs.YtpopljcmkbchcaaDoor
open Go.RowKit

def dB64 : List Int := [0, 1, 56, 2, 57, 49, 28, 3, 61, 58, 42, 50, 38, 29, 17, 4, 62, 47, 59, 36, 45, 43, 51, 22, 53, 39, 33, 30, 24, 18, 12, 5, 63, 55, 48, 27, 60, 41, 37, 16, 46, 35, 44, 21, 52, 32, 23, 11, 54, 26, 40, 15, 34, 20, 31, 10, 25, 14, 19, 9, 13, 8, 7, 6]

theorem gPow10 : Tryd.prog.globalNamed "internal/strconv.uint64pow10" = some 4 := by kernel_rfl

theorem gDB64 : Tryd.prog.globalNamed "math/bits.deBruijn64tab" = some 6 := by kernel_rfl

def Gd (w : World) : Prop :=
 (∃ m, w.cell? ⟨1, 0, none⟩ = some (.int .i64 m)) ∧ Lib.TabIs Tryd.prog w "internal/strconv.uint64pow10" .u64 Lib.pow10Tab ∧ Lib.TabIs Tryd.prog w "math/bits.deBruijn64tab" .u8 dB64

theorem Gd.kept {w w' : World} (h : Gd w) (hb : Below w.heap.size w w') : Gd w' := by
 obtain ⟨⟨m, hm⟩, h1, h2⟩ := h
 exact ⟨⟨m, (hb.cell (World.block_lt_of_cell? w _ hm)).trans hm⟩, Joins.tab_stays gPow10 h1 hb (Nat.le_refl _), Joins.tab_stays gDB64 h2 hb (Nat.le_refl _)⟩

theorem below2 {a b c : World} (h1 : Below a.heap.size a b) (h2 : Below b.heap.size b c) : Below a.heap.size a c := h1.trans (h2.mono h1.size)

def behind (l : List UInt8) : List UInt8 := if marked l then l.drop 2 else []

end Go.Proofs.YtpopljcmkbchcaaDoor

namespace Go.Proofs.YtpopljcmkbchcaaDoor
open Go.RowKit

def Tail (w : World) (g : Nat) (T : List UInt8) : Prop :=
 ∃ cur : Array Value, w.heap[g]? = some (.cells cur 117 (0, 0)) ∧ cur.size = 65 ∧ T.length ≤ 65 ∧ ∀ j (h : j < T.length), cur[65 - T.length + j]? = some (.int .u8 (T[j].toNat : Int))

theorem Tail.cell {w : World} {g : Nat} {T : List UInt8} (h : Tail w g T) (k : Nat) (hk : k < 65) : ∃ v, w.cell? ⟨g, k, none⟩ = some v := by
 obtain ⟨cur, hg, hs, _, _⟩ := h
 rw [cell_of_row w g k cur _ _ hg]
 exact ⟨cur[k], by simp [hs, hk]⟩

theorem Tail.frozen {w : World} {g : Nat} {T : List UInt8} (h : Tail w g T) (k : Nat) : w.frozen? ⟨g, k, none⟩ = false := by
 obtain ⟨cur, hg, _⟩ := h
 simp [World.frozen?, hg]

theorem Tail.set {w : World} {g : Nat} {T : List UInt8} (h : Tail w g T) (c : UInt8) (hT : T.length < 65) : Tail (w.setCell ⟨g, 64 - T.length, none⟩ (.int .u8 (c.toNat : Int))) g (c :: T) := by
 obtain ⟨cur, hg, hs, hl, hc⟩ := h
 refine ⟨_, Lib.heap_setCell_same hg _, by simpa using hs, by simp; omega, ?_⟩
 intro j hj
 cases j with
 | zero =>
  have e : 65 - (c :: T).length + 0 = 64 - T.length := by rw [List.length_cons]; omega
  rw [e]
  have hlt : 64 - T.length < cur.size := by omega
  simp [hlt]
 | succ j =>
  have hj' : j < T.length := by simpa using hj
  have e : 65 - (c :: T).length + (j + 1) = 65 - T.length + j := by rw [List.length_cons]; omega
  rw [e]
  have hne : 64 - T.length ≠ 65 - T.length + j := by omega
  simp [Array.getElem?_setIfInBounds, hne]
  exact hc j hj'

theorem Tail.string {w : World} {g cap : Nat} {T : List UInt8} (h : Tail w g T) : (convert 54 9 (.slice (some ⟨g, 65 - T.length, none⟩) T.length cap)).run Tryd.prog w = .ok (.string ⟨T.toArray⟩) w := by
 obtain ⟨cur, hg, hs, hl, hc⟩ := h
 refine run_convert_bytes_back w 54 9 5 _ cap T Tryd.underlying54 Tryd.underlying5 Tryd.underlying9 fun j hj => ?_
 rw [Addr.add_mid, cell_of_row w g _ cur _ _ hg]
 exact hc j hj

theorem digsN_more (base f n : Nat) (T : List UInt8) (h : ¬ n < base) : digsN base (f + 1) n T = digsN base f (n / base) (digC (n % base) :: T) := by rw [digsN, if_neg h]

theorem digsN_last (base f n : Nat) (T : List UInt8) (h : n < base) : digsN base (f + 1) n T = digC n :: T := by rw [digsN, if_pos h]

end Go.Proofs.YtpopljcmkbchcaaDoor

namespace Go.Proofs.YtpopljcmkbchcaaDoor
open Go.RowKit

theorem numV_ten {l : List UInt8} {c : UInt8} (h : marked (c :: l) = false) (hc : c ≠ 48) : numV (c :: l) = valV 10 (c :: l) := by simp [numV, h, hc]

theorem size_le {l : List UInt8} {s : ByteArray} {n : Nat} (h : l.length ≤ s.data.toList.length) (hs : s.size ≤ n) : (⟨l.toArray⟩ : ByteArray).size ≤ n := by
 have e : (⟨l.toArray⟩ : ByteArray).size = l.length := by show l.toArray.size = _; simp
 simp at h
 omega

theorem empty_yes (s : ByteArray) (h : s.data.toList = []) : s.toList.isEmpty = true := by rw [Lib.toList_data, h]; rfl

theorem empty_no (s : ByteArray) (h : s.data.toList ≠ []) : s.toList.isEmpty = false := by
 rw [Lib.toList_data]; cases hl : s.data.toList with
 | nil => exact absurd hl h
 | cons a l => rfl

end Go.Proofs.YtpopljcmkbchcaaDoor

namespace Go.Proofs.YtpopljcmkbchcaaDoor
open Go.RowKit

theorem fourN_more {r high n : Nat} {l : List UInt8} (h : numV (Lib.cut l [46]).1 = some n) (hm : (Lib.cut l [46]).2.2 = true) (hn : ¬ 255 < n) : fourN (r + 1) high l = fourN r (high * 256 + n) (Lib.cut l [46]).2.1 := by rw [fourN, h]; simp [hm, hn]

theorem fourN_last {r high n : Nat} {l : List UInt8} (h : numV (Lib.cut l [46]).1 = some n) (hm : (Lib.cut l [46]).2.2 = false) (hn : n < 2 ^ (8 * (r + 1))) : fourN (r + 1) high l = some (high * 2 ^ (8 * (r + 1)) + n) := by rw [fourN, h]; simp [hm, hn]

theorem getD_some {o : Option Nat} {n : Nat} (h : o = some n) : o.getD 0 = n := by rw [h]; rfl

theorem getD_none {o : Option Nat} (h : o = none) : o.getD 0 = 0 := by rw [h]; rfl

theorem orN (k h n : Nat) (hn : n < 2 ^ k) (hh : h * 2 ^ k + n < 18446744073709551616) : bits .or .u64 ((h : Int) * 2 ^ k) (n : Int) = ((h * 2 ^ k + n : Nat) : Int) := by
 have e : (h : Int) * 2 ^ k = ((h * 2 ^ k : Nat) : Int) := by simp
 rw [e, u64_or_nat _ _ (by omega) (by omega)]
 congr 1
 rw [← Nat.shiftLeft_eq, Nat.shiftLeft_add_eq_or_of_lt hn]

end Go.Proofs.YtpopljcmkbchcaaDoor

namespace Go.Proofs.YtpopljcmkbchcaaDoor
open Go.RowKit

theorem and255 (n : Nat) (h : n < 4294967296) : bits .and .u32 (n : Int) 255 = ((n % 256 : Nat) : Int) := by
 have := u32_and_nat n 255 h (by omega)
 rw [nat_mask8] at this
 simpa using this

def txt4 (n : Nat) : Nat → List UInt8
 | 0 => text4 n
 | 1 => dec8 (n / 16777216 % 256) ++ ([46] ++ dec8 (n / 65536 % 256)) ++ ([46] ++ dec8 (n / 256 % 256))
 | 2 => dec8 (n / 16777216 % 256) ++ ([46] ++ dec8 (n / 65536 % 256))
 | _ => dec8 (n / 16777216 % 256)

theorem dec8_le (n : Nat) : (dec8 n).length ≤ 3 := by
 unfold dec8; split
 ·simp
 ·split <;> simp

theorem text4_le (n : Nat) : (text4 n).length ≤ 15 := by
 unfold text4
 have h1 := dec8_le (n / 16777216 % 256)
 have h2 := dec8_le (n / 65536 % 256)
 have h3 := dec8_le (n / 256 % 256)
 have h4 := dec8_le (n % 256)
 simp; omega

theorem txt4_le (n g : Nat) : (txt4 n g).length ≤ 15 := by
 have h1 := dec8_le (n / 16777216 % 256)
 have h2 := dec8_le (n / 65536 % 256)
 have h3 := dec8_le (n / 256 % 256)
 unfold txt4
 split
 ·exact text4_le n
 ·simp; omega
 ·simp; omega
 ·omega

theorem ba_app (a b : List UInt8) : (⟨a.toArray⟩ : ByteArray) ++ ⟨b.toArray⟩ = ⟨(a ++ b).toArray⟩ := by
 refine ba_ext ?_
 simp

end Go.Proofs.YtpopljcmkbchcaaDoor

namespace Go.Proofs.YtpopljcmkbchcaaDoor
open Go.RowKit

theorem sizeBuilder : (Tryd.prog.info? 57).map (·.size) = some 2 := by kernel_rfl

theorem liesBuilder : liesAt Tryd.prog Tryd.prog.depth 57 (2 / Tryd.prog.cellsOf 57) 0 57 1 = true := by kernel_rfl

theorem infoByte : (Tryd.prog.info? 5).map (fun i => (i.zero, i.size, i.bytes)) = some (some (.int .u8 0), 1, 1) := by kernel_rfl

end Go.Proofs.YtpopljcmkbchcaaDoor

namespace Go.Proofs.YtpopljcmkbchcaaDoor
open Go.RowKit

theorem nameV_bad {l : List UInt8} (h : l = [] ∨ allN l = false ∨ coded l = true) : nameV l = none := by rw [nameV, if_pos h]

theorem nameV_name {l : List UInt8} (h0 : l ≠ []) (h1 : allN l = true) (h2 : coded l = false) (h3 : numberedV l = false) : nameV l = some l := by simp [nameV, h0, h1, h2, h3]

theorem nameV_num {l : List UInt8} (h0 : l ≠ []) (h1 : allN l = true) (h2 : coded l = false) (h3 : numberedV l = true) : nameV l = (fourV l).map text4 := by simp [nameV, h0, h1, h2, h3]

theorem fourN_lt : ∀ (r h : Nat) (l : List UInt8) (n : Nat), r ≤ 4 → h < 2 ^ (8 * (4 - r)) → fourN r h l = some n → n < 4294967296
 | 0, _, _, _, _, _, e => by cases e
 | r + 1, h, l, n, hr, hh, e => by
  have ep : 2 ^ (8 * (4 - (r + 1))) * 2 ^ (8 * (r + 1)) = 4294967296 := by
   rw [← Nat.pow_add, show 8 * (4 - (r + 1)) + 8 * (r + 1) = 32 by omega]
  rw [fourN] at e
  split at e
  ·cases e
  ·split at e
   ·split at e
    ·cases e
    ·refine fourN_lt r _ _ n (by omega) ?_ e
     have e2 : 8 * (4 - r) = 8 * (4 - (r + 1)) + 8 := by omega
     rw [e2, Nat.pow_add]
     omega
   ·split at e
    ·rename_i m _ _ hm
     cases e
     have h1 : (h + 1) * 2 ^ (8 * (r + 1)) ≤ 2 ^ (8 * (4 - (r + 1))) * 2 ^ (8 * (r + 1)) := Nat.mul_le_mul_right _ hh
     rw [ep, Nat.add_mul, Nat.one_mul] at h1
     omega
    ·cases e

theorem fourV_lt {l : List UInt8} {n : Nat} (h : fourV l = some n) : n < 4294967296 := fourN_lt 4 0 _ n (by omega) (by decide) h

end Go.Proofs.YtpopljcmkbchcaaDoor

namespace Go.Proofs.YtpopljcmkbchcaaDoor
open Go.RowKit

theorem plainB_le {l : List UInt8} {n : Nat} (h : plainB l = some n) : n ≤ 255 := by
 unfold plainB at h
 split at h
 ·cases h
 ·split at h
  ·cases h
  ·cases h; omega

end Go.Proofs.YtpopljcmkbchcaaDoor

namespace Go.Proofs.YtpopljcmkbchcaaDoor
open Go.RowKit

theorem infoU16 : (Tryd.prog.info? 124).map (fun i => (i.zero, i.size, i.bytes)) = some (some (.int .u16 0), 1, 2) := by kernel_rfl

def cells16 (l : List Nat) : List Value := l.map fun (n : Nat) => Value.int .u16 (n : Int)

theorem cells16_app (a b : List Nat) : cells16 (a ++ b) = cells16 a ++ cells16 b := by simp [cells16]

theorem cells16_len (a : List Nat) : (cells16 a).length = a.length := by simp [cells16]

theorem own_form {w : World} {base : Nat} {e : TypeId} {size n : Nat} {v : Value} {xs : List Value} (h : w.ownsRow base e size v n xs) : ∃ a cap, v = .slice a n cap := by
 rcases h.2 with ⟨rfl, rfl⟩ | ⟨g, cap, cur, rfl, _⟩
 ·exact ⟨none, 0, rfl⟩
 ·exact ⟨_, cap, rfl⟩

theorem piecesN_done {e : Bool} {f : Nat} {out : List Nat} {l : List UInt8} : piecesN e f out l false = some out := by cases f <;> rfl

theorem own_kept {w w' : World} {base : Nat} {e : TypeId} {size n : Nat} {v : Value} {xs : List Value} (h : w.ownsRow base e size v n xs) (hb : Below w.heap.size w w') : w'.ownsRow base e size v n xs := by
 refine ⟨h.1, ?_⟩
 rcases h.2 with h | ⟨g, cap, cur, hv, h1, h2, h3⟩
 ·exact .inl h
 ·refine .inr ⟨g, cap, cur, hv, h1, ?_, h3⟩
  have hlt : g < w.heap.size := by
   rcases Nat.lt_or_ge g w.heap.size with h' | h'
   ·exact h'
   ·rw [Array.getElem?_eq_none h'] at h2; cases h2
  rw [hb.block g hlt]; exact h2

theorem own_nil (w : World) (base : Nat) (e : TypeId) : w.ownsRow base e 1 (.slice none 0 0) 0 [] := ⟨rfl, .inl ⟨rfl, rfl⟩⟩

end Go.Proofs.YtpopljcmkbchcaaDoor

namespace Go.Proofs.YtpopljcmkbchcaaDoor
open Go.RowKit

def zero8 : List Nat := [0, 0, 0, 0, 0, 0, 0, 0]

def agg8 (x : List Nat) : Value := .agg (cells16 x).toArray

theorem row_kept {w w' : World} {g : Nat} {o : Obj} (h : w.heap[g]? = some o) (hb : Below w.heap.size w w') : w'.heap[g]? = some o := by
 have hlt : g < w.heap.size := by
  rcases Nat.lt_or_ge g w.heap.size with h' | h'
  ·exact h'
  ·rw [Array.getElem?_eq_none h'] at h; cases h
 rw [hb.block g hlt]; exact h

theorem there_row {w : World} {g n : Nat} {cs : Array Value} {t : TypeId} (h : w.heap[g]? = some (.cells cs t (0, 0))) (hn : n ≤ cs.size) : w.there g 0 n := by
 intro j hj
 constructor
 ·rw [cell_of_row w g _ cs t _ h]; simp; omega
 ·simp [World.frozen?, h]

theorem range_row {w : World} {g : Nat} {cs : List Value} {t : TypeId} {f : Nat × Nat} (h : w.heap[g]? = some (.cells cs.toArray t f)) : w.rangeAt g 0 cs := by
 intro j v hv
 rw [Nat.zero_add, cell_of_row w g j _ t _ h]
 simpa using hv

theorem below_setCells {B b : Nat} (hb : B ≤ b) {w0 : World} : ∀ (vs : List Value) (o : Nat) (w : World), Below B w0 w → Below B w0 (w.setCells b o vs)
 | [], _, _, h => h
 | v :: r, o, w, h => by
  rw [World.setCells]
  exact below_setCells hb r (o + 1) _ (h.setCell (p := ⟨b, o, none⟩) hb v)

theorem results_six {fn : Func} {p u : Tmp} {ty : TypeId} (h : fn.results = #[.cell p ty, .tmp u]) (tmps : Array Value) (P : Program) (w : World) (b : Nat) (cs : List Value) (d : TypeDesc) (hp : tmps.getD p undef = .pointer (some ⟨b, 0, none⟩)) (hc : w.rangeAt b 0 cs)
  (hu : P.underlying ty = some d) (hd : d.isRow = true) (hi : (P.info? ty).map (·.size) = some cs.length) : (results fn tmps).run P w = .ok (.tuple #[.agg cs.toArray, tmps.getD u undef]) w := by
 rw [results_cell_tmp h, hp]
 simp [asAddr, Result.andThen, run_loadVar_mid w b 0 ty cs d hc hu hd hi]

theorem own_src {w w' : World} {base : Nat} {e : TypeId} {a : Option Addr} {cap : Nat} {o : List Nat} (h : w.ownsRow base e 1 (.slice a o.length cap) o.length (cells16 o)) (h0 : 0 < o.length) (hb : Below w.heap.size w w') :
  ∃ ad, a = some ad ∧ ∀ j v, (cells16 o)[j]? = some v → w'.cell? (ad.add j) = some v := by
 rcases h.2 with ⟨hv, hn⟩ | ⟨g, cap', cur, hv, _⟩
 ·omega
 ·cases hv
  refine ⟨⟨g, 0, none⟩, rfl, fun j v hj => ?_⟩
  have hc := h.cells (g := g) rfl j v hj
  have hlt := World.block_lt_of_cell? w _ hc
  rw [hb.cell hlt]
  exact hc

def cutAd (b k : Nat) : Addr := if k = 0 then ⟨b, 0, none⟩ else ⟨b, 8 - k, none⟩

theorem slice8_from (b k : Nat) (hk : k ≤ 8) (w : World) : (Instr.sliceAt 125 (.pointer (some ⟨b, 0, none⟩)) (some (.int .i64 (8 - (k : Int)))) none none).run Tryd.prog w = .ok (.slice (some (cutAd b k)) k k) w := by
 have e8 : Tryd.prog.arrayLen 125 = 8 := by kernel_rfl
 have es : (sizeOf (Tryd.prog.elem 125)).run Tryd.prog w = .ok 1 w := by kernel_rfl
 rw [run_sliceAt_array_l w 125 ⟨b, 0, none⟩ (by kernel_rfl) .i64 _ (by omega) (by rw [e8]; omega), es, e8]
 simp only [Result.andThen, slicedAt]
 have e1 : (8 - (k : Int)).toNat = 8 - k := by omega
 have e2 : 8 - (8 - k) = k := by omega
 have e3 : (if 8 = 8 - k then (⟨b, 0, none⟩ : Addr) else (⟨b, 0, none⟩ : Addr).add ((8 - k) * 1)) = cutAd b k := by
  unfold cutAd
  by_cases h0 : k = 0
  ·subst h0; rfl
  ·rw [if_neg (by omega), if_neg h0, Addr.add_mid]; simp
 rw [e1, e2, e3]

theorem size8 : (Tryd.prog.info? 125).map (·.size) = some 8 := by kernel_rfl

theorem cells16_one (x : List Nat) : ∀ v ∈ cells16 x, v.oneCell' = true := by
 intro v hv
 obtain ⟨n, _, rfl⟩ := List.mem_map.1 hv
 rfl

theorem splice16 (a b : List Nat) (h : a.length + b.length ≤ 8) : splice (splice (cells16 zero8) 0 (cells16 a)) (8 - b.length) (cells16 b) = cells16 (a ++ List.replicate (8 - a.length - b.length) 0 ++ b) := by
 have hz : cells16 zero8 = List.replicate 8 (Value.int .u16 0) := rfl
 have e1 : splice (cells16 zero8) 0 (cells16 a) = cells16 a ++ List.replicate (8 - a.length) (Value.int .u16 0) := by
  unfold splice
  rw [hz, List.take_zero, List.nil_append, Nat.zero_add, cells16_len, List.drop_replicate]
 rw [e1]
 unfold splice
 rw [cells16_app, cells16_app, cells16_len, List.take_append, List.take_of_length_le (by rw [cells16_len]; omega), cells16_len, List.take_replicate, List.append_assoc, List.append_assoc]
 congr 1
 have e2 : min (8 - b.length - a.length) (8 - a.length) = 8 - a.length - b.length := by omega
 have e3 : (cells16 a ++ List.replicate (8 - a.length) (Value.int IntKind.u16 0)).drop (8 - b.length + b.length) = [] := by
  apply List.drop_eq_nil_of_le
  rw [List.length_append, cells16_len, List.length_replicate]; omega
 rw [e2, e3, List.append_nil]
 congr 1
 simp [cells16]

end Go.Proofs.YtpopljcmkbchcaaDoor

namespace Go.Proofs.YtpopljcmkbchcaaDoor
open Go.RowKit

theorem infoStr : (Tryd.prog.info? 9).map (fun i => (i.zero, i.size, i.bytes)) = some (some (.string ByteArray.empty), 1, 16) := by kernel_rfl

def hexB (n : Nat) : ByteArray := ⟨(hex16 n).toArray⟩

def Strs (w : World) (g : Nat) (x : List Nat) (k : Nat) : Prop :=
 ∃ cur : Array Value, w.heap[g]? = some (.cells cur 9 (0, 0)) ∧ cur.size = x.length ∧ ∀ j (h : j < x.length), j < k → cur[j]? = some (.string (hexB x[j]))

theorem Strs.kept {w w' : World} {g : Nat} {x : List Nat} {k : Nat} (h : Strs w g x k) (hb : Below w.heap.size w w') : Strs w' g x k := by
 obtain ⟨cur, hg, h2⟩ := h
 exact ⟨cur, row_kept hg hb, h2⟩

theorem Strs.cell {w : World} {g : Nat} {x : List Nat} {k : Nat} (h : Strs w g x k) (j : Nat) (hj : j < x.length) : ∃ v, w.cell? ⟨g, j, none⟩ = some v := by
 obtain ⟨cur, hg, hs, _⟩ := h
 rw [cell_of_row w g j cur _ _ hg]
 exact ⟨cur[j], by simp [hs, hj]⟩

theorem Strs.frozen {w : World} {g : Nat} {x : List Nat} {k : Nat} (h : Strs w g x k) (j : Nat) : w.frozen? ⟨g, j, none⟩ = false := by
 obtain ⟨cur, hg, _⟩ := h
 simp [World.frozen?, hg]

theorem Strs.set {w : World} {g : Nat} {x : List Nat} {k : Nat} (h : Strs w g x k) (hk : k < x.length) : Strs (w.setCell ⟨g, k, none⟩ (.string (hexB x[k]))) g x (k + 1) := by
 obtain ⟨cur, hg, hs, hc⟩ := h
 refine ⟨_, Lib.heap_setCell_same hg _, by simpa using hs, ?_⟩
 intro j hj hj2
 by_cases e : k = j
 ·subst e
  have : k < cur.size := by omega
  simp [this]
 ·simp [Array.getElem?_setIfInBounds, e]
  exact hc j hj (by omega)

theorem hex16_le (n : Nat) : (hex16 n).length ≤ 5 := by
 have key : ∀ (f m : Nat) (acc : List UInt8), (digsN 16 f m acc).length ≤ acc.length + f := by
  intro f
  induction f with
  | zero => intro m acc; simp [digsN]
  | succ f ih =>
   intro m acc
   rw [digsN]
   split
   ·simp
   ·have := ih (m / 16) (digC (m % 16) :: acc)
    simp at this
    omega
 have := key 4 n []
 simp at this
 unfold hex16
 omega

theorem joined_le (x : List Nat) : (joined x).length ≤ 6 * x.length := by
 unfold joined
 induction x with
 | nil => simp [Lib.join, List.intercalate]
 | cons a x ih =>
  have ha := hex16_le a
  cases x with
  | nil => simp [Lib.join_one]; omega
  | cons b x =>
   have e : Lib.join ((a :: b :: x).map hex16) [58] = hex16 a ++ [58] ++ Lib.join ((b :: x).map hex16) [58] := by
    simp [Lib.join, List.intercalate, List.intersperse]
   rw [e]
   simp only [List.length_append, List.length_cons, List.length_nil] at ih ⊢
   omega

def Nums (w : World) (b o : Nat) (x : List Nat) : Prop := ∀ j (h : j < x.length), w.cell? ⟨b, o + j, none⟩ = some (.int .u16 (x[j] : Int))

theorem Nums.kept {w w' : World} {b o : Nat} {x : List Nat} (h : Nums w b o x) (hb : Below w.heap.size w w') : Nums w' b o x := fun j hj => by
 rw [hb.cell (World.block_lt_of_cell? w _ (h j hj))]; exact h j hj

end Go.Proofs.YtpopljcmkbchcaaDoor
