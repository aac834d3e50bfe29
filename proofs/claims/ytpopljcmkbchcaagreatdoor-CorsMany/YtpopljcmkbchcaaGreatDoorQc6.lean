/-
  Walks and plain facts that this claim leans on, put together out of 1 texts: Cb.
-/
import Derived.Test.YtpopljcmkbchcaaGreatDoorProg
import Derived.Test.YtpopljcmkbchcaaGreatDoorQc1
import Derived.Test.YtpopljcmkbchcaaGreatDoorQc2
import Derived.Test.YtpopljcmkbchcaaGreatDoorQc3
import Derived.Test.YtpopljcmkbchcaaGreatDoorQc4
import Derived.Test.YtpopljcmkbchcaaGreatDoorQc5
import Derived.BigRegion
import Derived.Deep.RegionHeld
import Derived.Deep.RegionHeldLaw
import Derived.Lib.IndexAny
import Derived.WalkKit
import Derived.Lib.UnsafeStr
import Derived.Lib.BufferRead
import Derived.Lib.RuneBytes
import Derived.Laws.RangeAny
import Derived.Deep.LoopGhost
import Derived.Maps.OwnSet
import Derived.Maps.OwnOps
import Derived.Maps.AppendAt
import Derived.StringKeys
import Derived.BigQuiet
import Derived.Deep.QuietTactic
import Derived.LoopN
import Derived.RegionTactic
import Derived.Deep.RegionLaw
import Derived.Deep.RegionWith
import Derived.WalkSpells
import Derived.WalkLawsBesides
import Derived.Lib.FieldsP
import Derived.Lib.DecodeN
import Derived.Lib.IndexMore
import Derived.Lib.Join
import Derived.Lib.SmallJoins
import Derived.Laws.CopyOwn
import Derived.Laws.ResultCell
import Derived.Deep.MidRow
import Derived.Laws.OwnMore
import Derived.Below
import Derived.WalkSmall
import Derived.Lib.LaidTab
import Derived.Lib.AppendIntMem
import Derived.Laws.AppendOwn
import Derived.Laws.Runes
import Derived.Lib.OthersKept
import Derived.Lib.FrozenHead2
import Derived.Lib.Builder
import Derived.Lib.AppendStr
import Derived.Lib.Replace
import Derived.Shelf.GgClosure.GivesRunes
import Derived.Laws.BitsAll
import Derived.Laws.Shifts
import Derived.Deep.DeepAppendRoom
import Derived.Laws.IdiomStrings
import Derived.Laws.BytesString
import Derived.Laws.CopyRow
import Derived.Lib.Strings
import Derived.Laws.BitsAllLaws
import Derived.Lib.Bytealg
import Derived.Lib.BufferMore
import Derived.Shelf.Strings.Builder1
import Derived.Shelf.Strings.Builder2
import Derived.Shelf.Strings.OnBuilder
import Derived.Shelf.Strings.Trim
import Derived.Shelf.Small.Utf8
import Derived.Shelf.Small.Bits
import Derived.Shelf.Small.Strs
import Derived.Shelf.Small.Wraps
import Derived.Shelf.Strings.BuilderF
import Derived.Shelf.Strings.BuilderK
import Derived.Shelf.Strings.BuilderRune
import Derived.Shelf.Utf8.AppendRune
import Derived.Shelf.Utf8.AppendRunePlain
import Derived.Shelf.Strings.Builder2Cap
import Derived.Shelf.Strconv.Itoa0
import Derived.Shelf.Strconv.Itoa1
import Derived.Shelf.LaysM
import Derived.Shelf.Strconv.Itoa2
import Derived.Shelf.Strconv.Itoa3
import Derived.Shelf.Strings.Search1
import Derived.Shelf.Strings.Search2
import Derived.Shelf.Strings.Cut
import Derived.Shelf.Strings.Shaped
import Derived.Shelf.Sort.Plain
import Derived.Shelf.Strings.Prefix
import Derived.Shelf.Unicode.Latin
import Derived.Shelf.Strings.Runes
import Derived.Shelf.Strings.IndexAny
import Derived.Shelf.Strings.AsciiSet
import Derived.Shelf.Strings.IndexAnyAll
import Derived.Shelf.Unicode.DecodeSlow
import Derived.Shelf.Unicode.DecodeAny
import Derived.Shelf.Unicode.DecodeLast
import Derived.Shelf.Unicode.CaseLookup
import Derived.Shelf.Unicode.CaseConvert
import Derived.Shelf.Unicode.CaseTo
import Derived.Shelf.Unicode.CaseLaid
import Derived.Shelf.Slices.CompactS
import Derived.Shelf.Slices.In.SortNone
import Derived.Lib.SlTrimSet
import Derived.Shelf.Strings.SlTrimAscii
import Derived.Deep.CutRange
import Derived.Laws.Rows
import Derived.Laws.MakeOwn
import Derived.Deep.WholeRow
import Derived.Laws.AppendOwnNone
set_option linter.unusedSimpArgs false
set_option linter.unusedVariables false

namespace Go.Proofs.YtpopljcmkbchcaaGreatDoor
open Go.RowKit

def quo : List UInt8 → List UInt8 × List UInt8
 | [] => ([], [])
 | [c] => if c = 34 then ([], []) else ([c], [])
 | c :: d :: r => if c = 34 then ([], d :: r) else if c = 92 then (d :: (quo r).1, (quo r).2) else (c :: (quo (d :: r)).1, (quo (d :: r)).2)

end Go.Proofs.YtpopljcmkbchcaaGreatDoor

namespace Go.Proofs.YtpopljcmkbchcaaGreatDoor

open Go.RowKit

theorem byte_all {p : UInt8 → Bool} (h : (List.range 256).all (fun n => p (UInt8.ofNat n)) = true) (c : UInt8) : p c = true := by
 have := List.all_eq_true.1 h c.toNat (List.mem_range.2 c.toNat_lt)
 simpa using this

end Go.Proofs.YtpopljcmkbchcaaGreatDoor

namespace Go.Proofs.YtpopljcmkbchcaaGreatDoor

open Go.RowKit

def But (b : Nat) (w w' : World) : Prop := Below b w w' ∧ ∀ k, b < k → k < w.heap.size → w'.heap[k]? = w.heap[k]?

theorem But.refl (b : Nat) (w : World) : But b w w := ⟨Below.refl _ _, fun _ _ _ => rfl⟩

theorem But.of {b : Nat} {w w' : World} (h : Below w.heap.size w w') (hb : b ≤ w.heap.size) : But b w w' := ⟨h.mono hb, fun k _ hk => h.block k hk⟩

theorem But.trans {b : Nat} {w w1 w2 : World} (h : But b w w1) (h2 : But b w1 w2) : But b w w2 :=
 ⟨h.1.trans h2.1, fun k hb hk => (h2.2 k hb (by have := h.1.size; omega)).trans (h.2 k hb hk)⟩

theorem But.then {b : Nat} {w w1 w2 : World} (h : But b w w1) (h2 : Below w1.heap.size w1 w2) (hb : b ≤ w1.heap.size) : But b w w2 := h.trans (But.of h2 hb)

theorem But.size {b : Nat} {w w1 : World} (h : But b w w1) : w.heap.size ≤ w1.heap.size := h.1.size

theorem But.block {b : Nat} {w w1 : World} (h : But b w w1) (k : Nat) (hk : k < w.heap.size) (hne : k ≠ b) : w1.heap[k]? = w.heap[k]? := by
 rcases Nat.lt_or_gt_of_ne hne with h1 | h1
 ·exact h.1.block k h1
 ·exact h.2 k h1 hk

theorem But.below {b B : Nat} {v w w1 : World} (h0 : Below B v w) (h : But b w w1) (hB : B ≤ b) : Below B v w1 := h0.trans (h.1.mono hB)

theorem But.own {b B n k : Nat} {e : TypeId} {v : Value} {xs : List Value} {w w1 : World} (h : But b w w1) (ho : w.ownsRow B e k v n xs) (hne : v.ownBlock ≠ some b) : w1.ownsRow B e k v n xs := by
 rcases ho.2 with h' | ⟨g, cap, cur, hv, hg, hrow, rest⟩
 ·exact ⟨ho.1, .inl h'⟩
 ·refine ⟨ho.1, .inr ⟨g, cap, cur, hv, hg, (h.block g (Array.getElem?_eq_some_iff.1 hrow).1 ?_).trans hrow, rest⟩⟩
  rintro rfl
  subst hv
  exact hne rfl

theorem ret_tf {a b : Bool} (h : a = b) : Ending.returned (.bool a) = .returned (.bool b) := by rw [h]

end Go.Proofs.YtpopljcmkbchcaaGreatDoor

namespace Go.Proofs.YtpopljcmkbchcaaGreatDoor

open Go.RowKit

def IsRow_Cb (k : IntKind) (w : World) (a : Option Addr) (len cap : Nat) (zs : List Int) : Prop :=
 (a = none ∧ len = 0 ∧ cap = 0 ∧ zs = []) ∨
 ∃ x, a = some x ∧ len ≤ cap ∧ cap ≤ maxLen ∧ zs.length = cap ∧ (∀ i, i < zs.length → w.cell? (x.add i) = some (.int k (zs.getD i 0))) ∧ ∀ n ∈ zs, (Lit.int k n).wf = true

theorem IsRow_Cb.block {k : IntKind} {w : World} {a : Option Addr} {len cap : Nat} {zs : List Int} (h : IsRow_Cb k w a len cap zs) {y : Addr} (hy : a = some y) {j : Nat} (hj : j < zs.length) : (y.add j).block < w.heap.size := by
 rcases h with ⟨rfl, _⟩ | ⟨x, rfl, _, _, _, hcell, _⟩
 ·cases hy
 ·obtain rfl := Option.some.inj hy
  exact World.block_lt_of_cell? w _ (hcell j hj)

end Go.Proofs.YtpopljcmkbchcaaGreatDoor

namespace Go.Proofs.YtpopljcmkbchcaaGreatDoor

open Go.RowKit

def SlB_Cb (w : World) (v : Value) (l : List UInt8) : Prop :=
 (∃ c, v = .slice none 0 c ∧ l = []) ∨ ∃ x cap, v = .slice (some x) l.length cap ∧ ∀ j (h : j < l.length), w.cell? (x.add j) = some (.int .u8 (l[j].toNat : Int))

theorem SlB_Cb.string {P : Program} {w : World} {v : Value} {l : List UInt8} {e src dst : TypeId} (h : SlB_Cb w v l) (hs : P.underlying src = some (.slice e)) (he : P.underlying e = some (.int .u8)) (hd : P.underlying dst = some .string) :
  (convert src dst v).run P w = .ok (.string ⟨l.toArray⟩) w := by
 rcases h with ⟨c, rfl, rfl⟩ | ⟨x, cap, rfl, hc⟩
 ·exact Lib.run_convert_nil_bytes w src dst e c hs he hd
 ·exact run_convert_bytes_back w src dst e x cap l hs he hd hc

theorem SlB_Cb.below {w w' : World} {v : Value} {l : List UInt8} {B : Nat} (h : SlB_Cb w v l) (hb : Below B w w') (hB : ∀ x n c, v = .slice (some x) n c → ∀ j, j < l.length → (x.add j).block < B) : SlB_Cb w' v l := by
 rcases h with h | ⟨x, cap, rfl, hc⟩
 ·exact .inl h
 ·exact .inr ⟨x, cap, rfl, fun j hj => (hb.cell (hB x _ _ rfl j hj)).trans (hc j hj)⟩

theorem SlB_Cb.kept {w w' : World} {v : Value} {l : List UInt8} (h : SlB_Cb w v l) (hb : Below w.heap.size w w') : SlB_Cb w' v l := by
 refine h.below hb ?_
 rcases h with ⟨c, rfl, rfl⟩ | ⟨x, cap, rfl, hc⟩
 ·intro x n c' e j hj; simp at hj
 ·intro x' n c' e j hj
  obtain ⟨e1, _, _⟩ := Value.slice.inj e
  obtain rfl := Option.some.inj e1
  exact World.block_lt_of_cell? w _ (hc j hj)

theorem SlB_Cb.alloc {w : World} {v : Value} {l : List UInt8} (h : SlB_Cb w v l) (o : Obj) : SlB_Cb (w.alloc o) v l := h.kept ((Below.refl _ w).alloc (Nat.le_refl _) o)

theorem SlB_Cb.len {w : World} {v : Value} {l : List UInt8} (h : SlB_Cb w v l) : ∃ a cap, v = .slice a l.length cap := by
 rcases h with ⟨c, rfl, rfl⟩ | ⟨x, cap, rfl, hc⟩
 ·exact ⟨none, c, rfl⟩
 ·exact ⟨some x, cap, rfl⟩

theorem SlB_Cb.own {w : World} {B : Nat} {e : TypeId} {v : Value} {l : List UInt8} (h : w.ownsRow B e 1 v l.length (Lib.byteCells l)) : SlB_Cb w v l := by
 rcases h.2 with ⟨rfl, h0⟩ | ⟨g, cap, cur, rfl, _⟩
 ·exact .inl ⟨0, rfl, List.eq_nil_of_length_eq_zero h0⟩
 ·exact .inr ⟨_, cap, rfl, fun j hj => h.cells (g := g) rfl j _ (by simp [Lib.byteCells, hj])⟩

theorem SlB_Cb.take {w : World} {a : Option Addr} {len cap : Nat} {l : List UInt8} (h : SlB_Cb w (.slice a len cap) l) (n : Nat) (hn : n < l.length) : SlB_Cb w (.slice a n cap) (l.take n) := by
 rcases h with ⟨c, e, rfl⟩ | ⟨x, c, e, hc⟩
 ·simp at hn
 ·obtain ⟨rfl, rfl, rfl⟩ := Value.slice.inj e
  refine .inr ⟨x, cap, by congr 1; simp; omega, fun j hj => ?_⟩
  have hj' : j < l.length := by simp at hj; omega
  rw [hc j hj']; simp

theorem IsRow_Cb.bytes {w : World} {a : Option Addr} {len cap : Nat} {zs : List Int} (h : IsRow_Cb .u8 w a len cap zs) : ∃ l : List UInt8, l.length = len ∧ SlB_Cb w (.slice a len cap) l ∧ len ≤ cap ∧ cap ≤ maxLen := by
 rcases h with ⟨rfl, rfl, rfl, rfl⟩ | ⟨x, rfl, hlc, hcm, hz, hcell, hwf⟩
 ·exact ⟨[], rfl, .inl ⟨0, rfl, rfl⟩, Nat.le_refl _, by unfold maxLen; omega⟩
 ·refine ⟨(zs.take len).map fun n => UInt8.ofNat n.toNat, by simp; omega, .inr ⟨x, cap, by congr 1; simp; omega, ?_⟩, hlc, hcm⟩
  intro j hj
  have hj' : j < len ∧ j < zs.length := by simp at hj; omega
  have hwfj := hwf zs[j] (List.getElem_mem hj'.2)
  have hb : 0 ≤ zs[j] ∧ zs[j] ≤ 255 := by simpa [Lit.wf, IntKind.min, IntKind.max, IntKind.bits, IntKind.signed] using hwfj
  rw [hcell j hj'.2]
  have e : zs.getD j 0 = zs[j] := by simp [List.getD, hj'.2]
  rw [e]
  congr 2
  simp
  omega

end Go.Proofs.YtpopljcmkbchcaaGreatDoor

namespace Go.Proofs.YtpopljcmkbchcaaGreatDoor

open Go.RowKit

def QR (A B out l : List UInt8) : Prop := out ++ (quo l).1 = A ∧ (quo l).2 = B

theorem QR.start (l : List UInt8) : QR (quo l).1 (quo l).2 [] l := ⟨rfl, rfl⟩

theorem QR.one {A B out : List UInt8} {c : UInt8} (h : QR A B out [c]) (hc : c ≠ 34) : QR A B (out ++ [c]) [] := by
 obtain ⟨h1, h2⟩ := h
 rw [quo, if_neg hc] at h1 h2
 exact ⟨by rw [← h1]; simp [quo], h2⟩

theorem QR.nil {A B out : List UInt8} (h : QR A B out []) : out = A ∧ B = [] := by
 obtain ⟨h1, h2⟩ := h
 exact ⟨by simpa [quo] using h1, h2.symm⟩

theorem But.grown {b : Nat} {w w1 w2 : World} {row : Option Nat} (h : But b w w1) (hg : w1.grownBy w2 row) (hr : ∀ k, row = some k → w.heap.size ≤ k) (hb : b < w.heap.size) : But b w w2 := by
 have h1 := h.1.size
 refine ⟨h.1.grown hg (by omega) (fun k hk => by have := hr k hk; omega), fun k hk1 hk2 => ?_⟩
 rw [hg.block k (by omega) (fun e => by have := hr k e.symm; omega)]
 exact h.2 k hk1 hk2

theorem But.alloc {b : Nat} {w w1 : World} (h : But b w w1) (o : Obj) (hb : b ≤ w1.heap.size) : But b w (w1.alloc o) := h.then ((Below.refl _ w1).alloc (Nat.le_refl _) o) hb

end Go.Proofs.YtpopljcmkbchcaaGreatDoor

namespace Go.Proofs.YtpopljcmkbchcaaGreatDoor

open Go.RowKit

end Go.Proofs.YtpopljcmkbchcaaGreatDoor

namespace Go.Proofs.YtpopljcmkbchcaaGreatDoor

open Go.RowKit Go.Maps Go.WideMaps

theorem But.map {b B n : Nat} {D : DataW Unit} {w w1 : World} (h : But b w w1) (ho : w.ownsMap Tryz.prog 9 unitElem B n D) (hne : B ≠ b) : w1.ownsMap Tryz.prog 9 unitElem B n D := by
 obtain ⟨es, clock, hb, rest⟩ := ho
 exact ⟨es, clock, (h.block B (Array.getElem?_eq_some_iff.1 hb).1 hne).trans hb, rest⟩

end Go.Proofs.YtpopljcmkbchcaaGreatDoor

namespace Go.Proofs.YtpopljcmkbchcaaGreatDoor

open Go.RowKit

end Go.Proofs.YtpopljcmkbchcaaGreatDoor

namespace Go.Proofs.YtpopljcmkbchcaaGreatDoor

open Go.RowKit

end Go.Proofs.YtpopljcmkbchcaaGreatDoor

namespace Go.Proofs.YtpopljcmkbchcaaGreatDoor

open Go.RowKit

def pcsV (L : List Hd) (n : List UInt8) : List (List UInt8) := if getB L n then splitV L n else []

end Go.Proofs.YtpopljcmkbchcaaGreatDoor

namespace Go.Proofs.YtpopljcmkbchcaaGreatDoor

open Go.RowKit

end Go.Proofs.YtpopljcmkbchcaaGreatDoor

namespace Go.Proofs.YtpopljcmkbchcaaGreatDoor

open Go.RowKit

end Go.Proofs.YtpopljcmkbchcaaGreatDoor

namespace Go.Proofs.YtpopljcmkbchcaaGreatDoor

open Go.RowKit

end Go.Proofs.YtpopljcmkbchcaaGreatDoor

namespace Go.Proofs.YtpopljcmkbchcaaGreatDoor

open Go.RowKit

def isL (l x : List UInt8) : Bool := l == x

end Go.Proofs.YtpopljcmkbchcaaGreatDoor

namespace Go.Proofs.YtpopljcmkbchcaaGreatDoor

open Go.RowKit

end Go.Proofs.YtpopljcmkbchcaaGreatDoor

namespace Go.Proofs.YtpopljcmkbchcaaGreatDoor

open Go.RowKit

theorem begins_eq_Cb (s t : ByteArray) (h : t.size ≤ s.size) : ((s.extract 0 t.size).toList == t.toList) = Lib.hasPrefix s.data.toList t.data.toList := by
 rw [Lib.toList_data, Lib.toList_data, Lib.extract_data, Bool.eq_iff_iff]
 unfold Lib.hasPrefix
 rw [List.isPrefixOf_iff_prefix, List.prefix_iff_eq_take, beq_iff_eq]
 simp
 exact eq_comm

theorem begins_no_Cb (s t : ByteArray) (h : ¬ t.size ≤ s.size) : Lib.hasPrefix s.data.toList t.data.toList = false := by
 rw [← Bool.not_eq_true]
 unfold Lib.hasPrefix
 rw [List.isPrefixOf_iff_prefix]
 intro hp
 have := hp.length_le
 simp at this
 exact h this

set_option maxHeartbeats 400000 in
theorem begins_any_Cb (s t : ByteArray) (w : World) (hs : s.size ≤ 4000000000) (ht : t.size ≤ 4000000000) :
  Calls Tryz.prog 201 #[.string s, .string t] w fun e w' => e = .returned (.bool (Lib.hasPrefix s.data.toList t.data.toList)) ∧ w = w' := by
 by_cases h : t.size ≤ s.size
 ·have HE := hid (begins_eq_Cb s t h)
  have h' : (t.size : Int) ≤ (s.size : Int) := by omega
  have hd := decide_eq_true h'
  go_enter Tryz.func201, Tryz.ntmps201
  go_wp2
  go_ret
  exact ⟨ret_bool (by simpa using HE.out), rfl⟩
 ·have HE := hid (begins_no_Cb s t h)
  have h' : ¬ (t.size : Int) ≤ (s.size : Int) := by omega
  have hd := decide_eq_false h'
  go_enter Tryz.func201, Tryz.ntmps201
  go_wp2
  go_ret
  exact ⟨ret_bool HE.out.symm, rfl⟩

end Go.Proofs.YtpopljcmkbchcaaGreatDoor

namespace Go.Proofs.YtpopljcmkbchcaaGreatDoor

open Go.RowKit

end Go.Proofs.YtpopljcmkbchcaaGreatDoor

namespace Go.Proofs.YtpopljcmkbchcaaGreatDoor

open Go.RowKit

end Go.Proofs.YtpopljcmkbchcaaGreatDoor

namespace Go.Proofs.YtpopljcmkbchcaaGreatDoor

open Go.RowKit

end Go.Proofs.YtpopljcmkbchcaaGreatDoor

namespace Go.Proofs.YtpopljcmkbchcaaGreatDoor

open Go.RowKit

end Go.Proofs.YtpopljcmkbchcaaGreatDoor

namespace Go.Proofs.YtpopljcmkbchcaaGreatDoor

open Go.RowKit

set_option maxHeartbeats 1000000 in
theorem rhas_any (v : Value) (L : List (List UInt8)) (s : ByteArray) (w : World) (h : TxAt w v L) (hl : L.length ≤ 1000000) :
  Calls Tryz.prog 78 #[v, .string s] w fun e w' => e = .returned (.bool (L.any fun x => isL s.data.toList x)) ∧ w = w' := by
 obtain ⟨x1, c1, rfl, hc1, hm1, hv1⟩ := h.view
 have V1 := hid hv1
 clear h hv1
 go_enter Tryz.func78, Tryz.ntmps78
 go_wp2
 go_loop [5] (fun i => ∃ k : Nat, k ≤ L.length ∧ i = .int .i64 k ∧ ((L.take k).any fun x => isL s.data.toList x) = false) (fun i => L.length - (intOf i).toNat)
 case atStart => exact ⟨0, Nat.zero_le _, rfl, rfl⟩
 case round =>
  obtain ⟨k, hk, rfl, hno⟩ := hrel
  have HN := hid hno
  clear hno
  by_cases hlt : k < L.length
  ·have hlt' : (k : Int) < (L.length : Int) := by omega
   obtain ⟨b1, o1, rfl, e1⟩ := V1.out k hlt
   obtain ⟨X, hX⟩ : ∃ x : ByteArray, (⟨L[k].toArray⟩ : ByteArray) = x := ⟨_, rfl⟩
   rw [hX] at e1
   obtain ⟨q, hq⟩ : ∃ q, (X.toList == s.toList) = q := ⟨_, rfl⟩
   have hLk : isL s.data.toList L[k] = q := by
    rw [← hq, Lib.toList_data, Lib.toList_data, ← hX]
    show (s.data.toList == L[k]) = (L[k] == s.data.toList)
    exact BEq.comm
   have hs : ((L.take (k + 1)).any fun x => isL s.data.toList x) = (((L.take k).any fun x => isL s.data.toList x) || q) := by
    rw [List.take_succ_eq_append_getElem hlt, List.any_append]; simp [hLk]
   rw [HN.out, Bool.false_or] at hs
   cases q with
   | true =>
    have HF := hid (show (L.any fun x => isL s.data.toList x) = true by
     rw [List.any_eq_true]
     exact ⟨L[k], List.getElem_mem hlt, hLk⟩)
    clear hs hLk hX
    go_wp2
    go_ret
    exact ⟨ret_tf HF.out.symm, rfl⟩
   | false =>
    have HS := hid hs
    clear hs hLk hX
    go_wp2
    go_round
    case rel => exact ⟨k + 1, by omega, by go_num, HS.out⟩
    case measure => simp [intOf]; omega
  ·have hke : k = L.length := by omega
   subst hke
   have HF := hid (show (L.any fun x => isL s.data.toList x) = false by have := HN.out; rwa [List.take_length] at this)
   go_wp2
   go_ret
   exact ⟨ret_tf HF.out.symm, rfl⟩

end Go.Proofs.YtpopljcmkbchcaaGreatDoor

namespace Go.Proofs.YtpopljcmkbchcaaGreatDoor

open Go.RowKit

set_option maxHeartbeats 400000 in
theorem ends_true (c : Int) (w : World) :
  Calls Tryz.prog 200 #[.int .u8 c, .bool true] w fun e w' => e = .returned (.bool (endT c)) ∧ w = w' := by
 go_enter Tryz.func200, Tryz.ntmps200
 go_wp2
 all_goals
  go_ret
  exact ⟨ret_bool (by simp [endT, *]), rfl⟩

def pT (c : UInt8) : Bool := endT c.toNat

set_option maxRecDepth 100000 in
theorem pT_contains (c : UInt8) : [(9 : UInt8), 32].contains c = pT c := by
 have := byte_all (p := fun c => [(9 : UInt8), 32].contains c == pT c) (by decide) c
 simpa using this

theorem trimB_strip (l : List UInt8) : trimB l = ((l.dropWhile pT).reverse.dropWhile pT).reverse := by
 rw [trim_comm]
 unfold trimB Lib.trimS Lib.trimLeftS Lib.trimRightS
 have : (fun c => [(9 : UInt8), 32].contains c) = pT := funext pT_contains
 rw [this]

set_option maxHeartbeats 2000000 in
theorem rtrimT_any (s : ByteArray) (w : World) (hs : s.size ≤ 9223372036854775807) :
  Calls Tryz.prog 149 #[.string s, .bool true] w fun e w' => e = .returned (.string ⟨(trimB s.data.toList).toArray⟩) ∧ w = w' := by
 have HV := hid (trimB_strip s.data.toList)
 go_enter Tryz.func149, Tryz.ntmps149
 go_wp2
 go_loop [0] (fun v => ∃ S : ByteArray, v = .string S ∧ S.size ≤ 9223372036854775807 ∧ S.data.toList.dropWhile pT = s.data.toList.dropWhile pT) (fun v => match v with | .string S => S.size | _ => 0)
 case atStart => exact ⟨s, rfl, hs, rfl⟩
 case round =>
  obtain ⟨S, rfl, hS, hd⟩ := hrel
  have HD := hid hd
  clear hd
  by_cases h0 : 0 < S.size
  ·have h0' : (0 : Int) < (S.size : Int) := by omega
   have hx := ext_from1 S h0
   by_cases hp : endT (S[0].toNat : Int) = true
   ·have h1 : (1 : Int) ≤ (S.size : Int) := by omega
    have HN := hid (show (S.extract 1 S.size).data.toList.dropWhile pT = s.data.toList.dropWhile pT by
     rw [← HD.out, hx, List.dropWhile_cons_of_pos (show pT S[0] = true from hp)])
    clear hx
    go_wp2_with (go_at_call 200; refine (ends_true _ _).mono ?_; rintro e w' ⟨rfl, rfl⟩)
    go_round
    case rel => exact ⟨S.extract 1 S.size, rfl, by simp; omega, HN.out⟩
    case measure => simp; omega
   ·have hp' : endT (S[0].toNat : Int) = false := by simpa using hp
    have HN := hid (show S.data.toList = s.data.toList.dropWhile pT by
     rw [← HD.out, hx, List.dropWhile_cons_of_neg (show ¬ pT S[0] = true from hp), ← hx])
    clear hx hp
    have hSS : ∀ T : ByteArray, T.data.toList.reverse.dropWhile pT = S.data.toList.reverse.dropWhile pT → (T.data.toList = [] ∨ ∃ A c, T.data.toList = A ++ [c] ∧ pT c = false) → T = ⟨(trimB s.data.toList).toArray⟩ := fun T h1 h2 => by
     refine xext ?_
     rw [HV.out, ← HN.out, ← h1]
     rcases h2 with h2 | ⟨A, c, h2, hc⟩
     ·rw [h2]; rfl
     ·rw [h2, List.reverse_append, List.reverse_cons, List.reverse_nil, List.nil_append, List.singleton_append, List.dropWhile_cons_of_neg (by simp [hc]), List.reverse_cons, List.reverse_reverse]
    have HSS := hid hSS
    clear hSS
    go_wp2_with (go_at_call 200; refine (ends_true _ _).mono ?_; rintro e w' ⟨rfl, rfl⟩)
    go_loop [0] (fun v => ∃ T : ByteArray, v = .string T ∧ T.size ≤ 9223372036854775807 ∧ T.data.toList.reverse.dropWhile pT = S.data.toList.reverse.dropWhile pT) (fun v => match v with | .string T => T.size | _ => 0)
    case atStart => exact ⟨S, rfl, hS, rfl⟩
    case round =>
     obtain ⟨T, rfl, hT, hd⟩ := hrel
     have HD2 := hid hd
     clear hd
     by_cases t0 : 0 < T.size
     ·have t0' : (0 : Int) < (T.size : Int) := by omega
      have ht1 : (T.size : Int) - 1 < (T.size : Int) := by omega
      have ht2 : (0 : Int) ≤ (T.size : Int) - 1 := by omega
      have ht3 : ((T.size : Int) - 1).toNat = T.size - 1 := by omega
      have ht4 : (T.size : Int) - 1 ≤ (T.size : Int) := by omega
      have hx := ext_to1 T t0
      by_cases hp : endT ((T[T.size - 1]'(by omega)).toNat : Int) = true
      ·have HN2 := hid (show (T.extract 0 (T.size - 1)).data.toList.reverse.dropWhile pT = S.data.toList.reverse.dropWhile pT by
        rw [← HD2.out]
        conv => rhs; rw [hx, List.reverse_append, List.reverse_cons, List.reverse_nil, List.nil_append, List.singleton_append, List.dropWhile_cons_of_pos (show pT (T[T.size - 1]'(by omega)) = true from hp)])
       clear hx
       go_wp2_with (go_at_call 200; refine (ends_true _ _).mono ?_; rintro e w' ⟨rfl, rfl⟩)
       go_round
       case rel => exact ⟨T.extract 0 (T.size - 1), rfl, by simp; omega, HN2.out⟩
       case measure => simp; omega
      ·have hp' : endT ((T[T.size - 1]'(by omega)).toNat : Int) = false := by simpa using hp
       have HF := hid (HSS.out T HD2.out (.inr ⟨_, _, hx, hp'⟩))
       clear hx hp
       go_wp2_with (go_at_call 200; refine (ends_true _ _).mono ?_; rintro e w' ⟨rfl, rfl⟩)
       go_ret
       rw [← HF.out]
       exact ⟨rfl, rfl⟩
     ·have t0' : decide ((0 : Int) < (T.size : Int)) = false := by rw [decide_eq_false_iff_not]; omega
      have HF := hid (HSS.out T HD2.out (.inl (List.eq_nil_of_length_eq_zero (by have := Lib.size_eq T; omega))))
      go_wp2
      go_ret
      rw [← HF.out]
      exact ⟨rfl, rfl⟩
  ·have h0' : decide ((0 : Int) < (S.size : Int)) = false := by rw [decide_eq_false_iff_not]; omega
   have hSn : S.data.toList = [] := List.eq_nil_of_length_eq_zero (by have := Lib.size_eq S; omega)
   have HN := hid (show S.data.toList = s.data.toList.dropWhile pT by rw [← HD.out, hSn]; rfl)
   clear hSn
   have hSS : ∀ T : ByteArray, T.data.toList.reverse.dropWhile pT = S.data.toList.reverse.dropWhile pT → (T.data.toList = [] ∨ ∃ A c, T.data.toList = A ++ [c] ∧ pT c = false) → T = ⟨(trimB s.data.toList).toArray⟩ := fun T h1 h2 => by
    refine xext ?_
    rw [HV.out, ← HN.out, ← h1]
    rcases h2 with h2 | ⟨A, c, h2, hc⟩
    ·rw [h2]; rfl
    ·rw [h2, List.reverse_append, List.reverse_cons, List.reverse_nil, List.nil_append, List.singleton_append, List.dropWhile_cons_of_neg (by simp [hc]), List.reverse_cons, List.reverse_reverse]
   have HSS := hid hSS
   clear hSS
   go_wp2
   go_loop [0] (fun v => ∃ T : ByteArray, v = .string T ∧ T.size ≤ 9223372036854775807 ∧ T.data.toList.reverse.dropWhile pT = S.data.toList.reverse.dropWhile pT) (fun v => match v with | .string T => T.size | _ => 0)
   case atStart => exact ⟨S, rfl, hS, rfl⟩
   case round =>
    obtain ⟨T, rfl, hT, hd⟩ := hrel
    have HD2 := hid hd
    clear hd
    by_cases t0 : 0 < T.size
    ·have t0' : (0 : Int) < (T.size : Int) := by omega
     have ht1 : (T.size : Int) - 1 < (T.size : Int) := by omega
     have ht2 : (0 : Int) ≤ (T.size : Int) - 1 := by omega
     have ht3 : ((T.size : Int) - 1).toNat = T.size - 1 := by omega
     have ht4 : (T.size : Int) - 1 ≤ (T.size : Int) := by omega
     have hx := ext_to1 T t0
     by_cases hp : endT ((T[T.size - 1]'(by omega)).toNat : Int) = true
     ·have HN2 := hid (show (T.extract 0 (T.size - 1)).data.toList.reverse.dropWhile pT = S.data.toList.reverse.dropWhile pT by
       rw [← HD2.out]
       conv => rhs; rw [hx, List.reverse_append, List.reverse_cons, List.reverse_nil, List.nil_append, List.singleton_append, List.dropWhile_cons_of_pos (show pT (T[T.size - 1]'(by omega)) = true from hp)])
      clear hx
      go_wp2_with (go_at_call 200; refine (ends_true _ _).mono ?_; rintro e w' ⟨rfl, rfl⟩)
      go_round
      case rel => exact ⟨T.extract 0 (T.size - 1), rfl, by simp; omega, HN2.out⟩
      case measure => simp; omega
     ·have hp' : endT ((T[T.size - 1]'(by omega)).toNat : Int) = false := by simpa using hp
      have HF := hid (HSS.out T HD2.out (.inr ⟨_, _, hx, hp'⟩))
      clear hx hp
      go_wp2_with (go_at_call 200; refine (ends_true _ _).mono ?_; rintro e w' ⟨rfl, rfl⟩)
      go_ret
      rw [← HF.out]
      exact ⟨rfl, rfl⟩
    ·have t0' : decide ((0 : Int) < (T.size : Int)) = false := by rw [decide_eq_false_iff_not]; omega
     have HF := hid (HSS.out T HD2.out (.inl (List.eq_nil_of_length_eq_zero (by have := Lib.size_eq T; omega))))
     go_wp2
     go_ret
     rw [← HF.out]
     exact ⟨rfl, rfl⟩

end Go.Proofs.YtpopljcmkbchcaaGreatDoor

namespace Go.Proofs.YtpopljcmkbchcaaGreatDoor

open Go.RowKit

theorem take_drop_ext (T : ByteArray) (f i : Nat) (h1 : f ≤ i) (h2 : i ≤ T.size) : (T.extract f i).data.toList = (T.data.toList.drop f).take (i - f) := by
 rw [Lib.extract_data]

def RsPost (L : List (List UInt8)) (b : Bool) (w : World) (e : Ending) (w' : World) : Prop :=
 ∃ v, e = .returned (.tuple #[v, .bool b]) ∧ w'.ownsRow w.heap.size 9 1 v L.length (cellsT L) ∧ Below w.heap.size w w'

set_option maxHeartbeats 8000000 in
set_option maxRecDepth 100000 in
theorem rsplit_any_Cb (v : Value) (L : List Hd) (n : ByteArray) (w : World) (h : HdAt w v L) (hs : n.size ≤ 140737488351232) (hz : Szd 140737488351232 L) (hl : L.length ≤ 1000000) (hb : bulkV L ≤ 100000000) :
  Calls Tryz.prog 96 #[v, .string n] w (RsPost (pcsV L n.data.toList) (getB L n.data.toList) w) := by
 obtain ⟨i0, hi, hz0, hz1, hz2⟩ := info3 infoTx
 have HG := hid (rget_any v L n w h hs hz hl (by omega))
 have hgl := getT_len L n.data.toList
 obtain ⟨T, hT⟩ : ∃ T : ByteArray, T = ⟨(getT L n.data.toList).toArray⟩ := ⟨_, rfl⟩
 rw [← hT] at HG
 have hTs : T.size ≤ 100000000 := by rw [hT, xsize]; omega
 obtain ⟨i1, n1, c1, rfl⟩ : ∃ a n c, v = .slice a n c := by obtain ⟨a, c, e, _⟩ := h; exact ⟨a, _, c, e⟩
 cases hg : getB L n.data.toList with
 | false =>
  rw [hg] at HG
  have HV := hid (show pcsV L n.data.toList = [] by unfold pcsV; rw [hg]; rfl)
  clear hT hgl h hz hb hg
  go_enter Tryz.func96, Tryz.ntmps96
  go_wp2_with fail
  refine HG.out.mono ?_
  rintro e w0 ⟨rfl, hb0⟩
  go_wp2
  go_ret2
  unfold RsPost
  rw [HV.out]
  exact ⟨_, rfl, World.ownsRow_nil _ _ _ _, hb0⟩
 | true =>
  rw [hg] at HG
  have HV := hid (show pcsV L n.data.toList = (pcs T.data.toList).map trimB by unfold pcsV; rw [hg, hT]; rfl)
  clear hT hgl h hz hb hg
  go_enter Tryz.func96, Tryz.ntmps96
  go_wp2_with fail
  refine HG.out.mono ?_
  rintro e w0 ⟨rfl, hb0⟩
  go_wp2
  generalize hR : (pcs T.data.toList).map trimB = R at *
  go_loopw [8, 9, 10, 11] (fun vv fr qv iv wr => ∃ (k f : Nat) (q : Bool) (out : List (List UInt8)), iv = .int .i64 k ∧ fr = .int .i64 f ∧ qv = .bool q ∧ out.length ≤ k ∧ wr.ownsRow w.heap.size 9 1 vv out.length (cellsT out) ∧ Below w.heap.size w wr ∧ ((k ≤ T.size ∧ SpI T.data.toList f k q ∧ out ++ (pcs (T.data.toList.drop f)).map trimB = R) ∨ (k = T.size + 1 ∧ out = R)))
   (fun _ _ _ iv _ => T.size + 1 - (intOf iv).toNat)
  case atStart => exact ⟨0, 0, false, [], rfl, rfl, rfl, Nat.le_refl _, World.ownsRow_nil _ _ _ _, hb0, .inl ⟨Nat.zero_le _, SpI.start _ 0 (Nat.zero_le _), by rw [List.drop_zero]; exact hR⟩⟩
  case round =>
   obtain ⟨k, f, q, out, rfl, rfl, rfl, hol, hown, hbw, hst⟩ := hrel
   have HO := hid hown
   have HBw := hid hbw
   have hwr := hbw.size
   clear hown hbw
   rcases hst with ⟨hk, hsp, hout⟩ | ⟨hk, hout⟩
   ·have hfk := hsp.1
    have HSp := hid hsp
    have HOu := hid hout
    clear hsp hout
    have hk' : (k : Int) ≤ (T.size : Int) := by omega
    have hf' : (f : Int) ≤ (k : Int) := by omega
    have hol' : out.length ≤ 100000000 := by omega
    by_cases hend : k = T.size
    ·have hke : ((k : Int) == (T.size : Int)) = true := by rw [hend]; simp
     obtain ⟨X, hX⟩ : ∃ X, T.extract f k = X := ⟨_, rfl⟩
     have hXs : X.size ≤ 100000000 := by rw [← hX]; simp; omega
     have hXl : X.data.toList = T.data.toList.drop f := by
      rw [← hX, take_drop_ext T f k hfk (by omega), List.take_of_length_le (by simp; omega)]
     obtain ⟨P, hP⟩ : ∃ P : ByteArray, (⟨(trimB X.data.toList).toArray⟩ : ByteArray) = P := ⟨_, rfl⟩
     have HTr : Hid (∀ w : World, Calls Tryz.prog 149 #[.string X, .bool true] w fun e w' => e = .returned (.string P) ∧ w = w') := fun w => by
      rw [← hP]; exact rtrimT_any X w (by omega)
     have HN := hid (show out ++ [P.data.toList] = R by
      have hlast : pcs (T.data.toList.drop f) = [T.data.toList.drop f] := by
       have := HSp.out
       have e : k = T.data.toList.length := by rw [← Lib.size_eq]; exact hend
       rw [e] at this
       exact this.last
      rw [← HOu.out, hlast, ← hP, hXl]; rfl)
     have HXe := hid hX
     clear hX hXl hP
     go_wp2_with fail
     first | rw [HXe.out] | (rw [show T.extract f T.size = X by rw [← hend]; exact HXe.out])
     refine (HTr.out _).mono ?_
     rintro e w2 ⟨rfl, rfl⟩
     go_wp2_with (at_builtin; go_must (refine wpList_append_own _ rfl _ _ 50 rfl w.heap.size 9 i0 (.string ByteArray.empty) 1 16 Tryz.underlying50 hi hz0 hz1 hz2 rfl (by decide) _ _ _ rfl (HO.out.alloc _) ⟨wr.heap.size, 0, none⟩ 1 1 [.string P] rfl rfl ?c1a ?c2a ?c3a ?c4a ?c5a ?_))
     case c1a =>
      intro q u hq
      match q, hq with
      | 0, hq => simp at hq; subst hq; simp [Addr.add]
     case c2a => intro u hu; simp at hu; subst hu; rfl
     case c3a => unfold maxLen; omega
     case c4a => omega
     case c5a => simp; omega
     intro v' w3 hown' hgrow hnil
     have HO3 := hid hown'
     have HB3 := hid (show Below w.heap.size w w3 from (HBw.out.alloc HBw.out.size _).grown hgrow (by have := HBw.out.size; simp; omega) (fun g hg => (HO.out.lt g hg).1))
     clear hown' hgrow hnil
     go_wp2
     go_roundw
     case rel =>
      refine ⟨k + 1, k + 1, q, out ++ [P.data.toList], by go_num, by go_num, rfl, by simp; omega, ?_, HB3.out, .inr ⟨by omega, HN.out⟩⟩
      rw [cellsT_app, cellsT_one, List.length_append]
      exact HO3.out
     case measure => simp [intOf]; omega
    ·have hke : ((k : Int) == (T.size : Int)) = false := by rw [beq_eq_false_iff_ne]; omega
     have hlt : k < T.size := by omega
     have hlt' : (k : Int) < (T.size : Int) := by omega
     have hll : k < T.data.toList.length := by rw [← Lib.size_eq]; exact hlt
     have hTk : T.data.toList[k] = T[k] := rfl
     have hb := T[k].toNat_lt
     by_cases hcm : T[k] = 44 ∧ q = false
     ·obtain ⟨h44, rfl⟩ := hcm
      have e44 : (T[k].toNat : Int) = 44 := by rw [h44]; rfl
      obtain ⟨X, hX⟩ : ∃ X, T.extract f k = X := ⟨_, rfl⟩
      have hXs : X.size ≤ 100000000 := by rw [← hX]; simp; omega
      have hXl : X.data.toList = (T.data.toList.drop f).take (k - f) := by rw [← hX, take_drop_ext T f k hfk (by omega)]
      obtain ⟨P, hP⟩ : ∃ P : ByteArray, (⟨(trimB X.data.toList).toArray⟩ : ByteArray) = P := ⟨_, rfl⟩
      have HTr : Hid (∀ w : World, Calls Tryz.prog 149 #[.string X, .bool true] w fun e w' => e = .returned (.string P) ∧ w = w') := fun w => by
       rw [← hP]; exact rtrimT_any X w (by omega)
      have HN := hid (show (out ++ [P.data.toList]) ++ (pcs (T.data.toList.drop (k + 1))).map trimB = R by
       have hc := HSp.out.comma hll (by rw [hTk]; exact h44)
       rw [← HOu.out, hc, ← hP, hXl]; simp)
      have HXe := hid hX
      clear hX hXl hP h44
      go_wp2_with fail
      rw [HXe.out]
      refine (HTr.out _).mono ?_
      rintro e w2 ⟨rfl, rfl⟩
      go_wp2_with (at_builtin; go_must (refine wpList_append_own _ rfl _ _ 50 rfl w.heap.size 9 i0 (.string ByteArray.empty) 1 16 Tryz.underlying50 hi hz0 hz1 hz2 rfl (by decide) _ _ _ rfl (HO.out.alloc _) ⟨wr.heap.size, 0, none⟩ 1 1 [.string P] rfl rfl ?c1b ?c2b ?c3b ?c4b ?c5b ?_))
      case c1b =>
       intro q u hq
       match q, hq with
       | 0, hq => simp at hq; subst hq; simp [Addr.add]
      case c2b => intro u hu; simp at hu; subst hu; rfl
      case c3b => unfold maxLen; omega
      case c4b => omega
      case c5b => simp; omega
      intro v' w3 hown' hgrow hnil
      have HO3 := hid hown'
      have HB3 := hid (show Below w.heap.size w w3 from (HBw.out.alloc HBw.out.size _).grown hgrow (by have := HBw.out.size; simp; omega) (fun g hg => (HO.out.lt g hg).1))
      clear hown' hgrow hnil
      go_wp2
      go_roundw
      case rel =>
       refine ⟨k + 1, k + 1, false, out ++ [P.data.toList], by go_num, by go_num, rfl, by simp; omega, ?_, HB3.out, .inl ⟨by omega, SpI.start _ _ (by rw [← Lib.size_eq]; omega), HN.out⟩⟩
       rw [cellsT_app, cellsT_one, List.length_append]
       exact HO3.out
      case measure => simp [intOf]; omega
     ·by_cases hbs : T[k] = 92 ∧ q = true
      ·obtain ⟨h92, rfl⟩ := hbs
       have e92 : (T[k].toNat : Int) = 92 := by rw [h92]; rfl
       by_cases h1 : k + 1 < T.size
       ·have h1' : ¬ (T.size : Int) ≤ (k : Int) + 1 := by omega
        have HS2 := hid (HSp.out.back (by rw [← Lib.size_eq]; exact h1) (by rw [hTk]; exact h92))
        clear h92 hcm
        go_wp2
        go_roundw
        case rel => exact ⟨k + 2, f, true, out, by go_num, rfl, rfl, by omega, HO.out, HBw.out, .inl ⟨by omega, HS2.out, HOu.out⟩⟩
        case measure => simp [intOf]; omega
       ·have h1' : (T.size : Int) ≤ (k : Int) + 1 := by omega
        have hks : (T.size : Int) - 1 = (k : Int) := by omega
        have HS2 := hid (HSp.out.back_last (by rw [← Lib.size_eq]; omega) (by rw [hTk]; exact h92))
        clear h92 hcm
        go_wp2
        go_roundw
        case rel => exact ⟨k + 1, f, true, out, by go_num, rfl, rfl, by omega, HO.out, HBw.out, .inl ⟨by omega, HS2.out, HOu.out⟩⟩
        case measure => simp [intOf]; omega
      ·have hgo1 : (((T[k].toNat : Int) == 44) = false) ∨ (((T[k].toNat : Int) == 44) = true ∧ q = true) := by
        by_cases h : T[k] = 44
        ·right; exact ⟨by rw [h]; rfl, by cases q with | true => rfl | false => exact absurd ⟨h, rfl⟩ hcm⟩
        ·left; rw [beq_eq_false_iff_ne]; intro e; exact h (UInt8.toNat_inj.1 (by show T[k].toNat = 44; omega))
       have hgo2 : (((T[k].toNat : Int) == 92) = false) ∨ (((T[k].toNat : Int) == 92) = true ∧ q = false) := by
        by_cases h : T[k] = 92
        ·right; exact ⟨by rw [h]; rfl, by cases q with | false => rfl | true => exact absurd ⟨h, rfl⟩ hbs⟩
        ·left; rw [beq_eq_false_iff_ne]; intro e; exact h (UInt8.toNat_inj.1 (by show T[k].toNat = 92; omega))
       by_cases h34 : T[k] = 34
       ·have e34 : (T[k].toNat : Int) = 34 := by rw [h34]; rfl
        have HS2 := hid (HSp.out.quote hll (by rw [hTk]; exact h34))
        clear h34 hcm hbs hgo1 hgo2
        go_wp2
        go_roundw
        case rel => exact ⟨k + 1, f, !q, out, by go_num, rfl, rfl, by omega, HO.out, HBw.out, .inl ⟨by omega, HS2.out, HOu.out⟩⟩
        case measure => simp [intOf]; omega
       ·have e34 : ((T[k].toNat : Int) == 34) = false := by rw [beq_eq_false_iff_ne]; intro e; exact h34 (UInt8.toNat_inj.1 (by show T[k].toNat = 34; omega))
        have HS2 := hid (HSp.out.other hll (by rw [hTk]; exact h34) (fun hq => by rw [hTk]; intro e; exact hcm ⟨e, hq⟩) (fun hq => by rw [hTk]; intro e; exact hbs ⟨e, hq⟩))
        clear h34 hcm hbs
        rcases hgo1 with g1 | ⟨g1, rfl⟩
        all_goals
         rcases hgo2 with g2 | ⟨g2, g3⟩
        all_goals try (subst g3)
        all_goals try (cases g3)
        all_goals
         go_wp2
         go_roundw
         case rel => exact ⟨k + 1, f, _, out, by go_num, rfl, rfl, by omega, HO.out, HBw.out, .inl ⟨by omega, HS2.out, HOu.out⟩⟩
         case measure => simp [intOf]; omega
   ·have hk' : ¬ (k : Int) ≤ (T.size : Int) := by omega
    have HOu := hid hout
    clear hout
    go_wp2
    go_ret2
    unfold RsPost
    rw [HV.out, ← HOu.out]
    exact ⟨_, rfl, HO.out, HBw.out⟩

end Go.Proofs.YtpopljcmkbchcaaGreatDoor

namespace Go.Proofs.YtpopljcmkbchcaaGreatDoor

open Go.RowKit

end Go.Proofs.YtpopljcmkbchcaaGreatDoor

namespace Go.Proofs.YtpopljcmkbchcaaGreatDoor

open Go.RowKit

end Go.Proofs.YtpopljcmkbchcaaGreatDoor

namespace Go.Proofs.YtpopljcmkbchcaaGreatDoor

open Go.RowKit

end Go.Proofs.YtpopljcmkbchcaaGreatDoor

namespace Go.Proofs.YtpopljcmkbchcaaGreatDoor

open Go.RowKit

end Go.Proofs.YtpopljcmkbchcaaGreatDoor

namespace Go.Proofs.YtpopljcmkbchcaaGreatDoor

open Go.RowKit

end Go.Proofs.YtpopljcmkbchcaaGreatDoor

namespace Go.Proofs.YtpopljcmkbchcaaGreatDoor

open Go.RowKit

structure Three where
 (a b c : Nat)

structure Kd where
 W : Nat
 R : Nat
 s0 : Three
 s1 : Three
 g0 : Three
 g1 : Three

def Kd.B (k : Kd) : Nat := k.W / 8

def Kd.size (k : Kd) : Nat := 16 * k.B

end Go.Proofs.YtpopljcmkbchcaaGreatDoor

namespace Go.Proofs.YtpopljcmkbchcaaGreatDoor

open Go.RowKit

theorem index_one_none_Cb (l : List UInt8) (c : UInt8) (h : c ∉ l) : Lib.index l [c] = -1 := by
 induction l with
 | nil => rfl
 | cons a l ih =>
  have ha : a ≠ c := fun e => h (by simp [e])
  have hl : c ∉ l := fun e => h (by simp [e])
  unfold Lib.index
  rw [ih hl]
  have : [c].isPrefixOf (a :: l) = false := by simp [List.isPrefixOf]; exact fun e => ha e.symm
  rw [this]; rfl

theorem index_one_some_Cb (a r : List UInt8) (c : UInt8) (h : c ∉ a) : Lib.index (a ++ c :: r) [c] = a.length := by
 induction a with
 | nil => unfold Lib.index; simp [List.isPrefixOf]
 | cons x a ih =>
  have hx : x ≠ c := fun e => h (by simp [e])
  have ha : c ∉ a := fun e => h (by simp [e])
  rw [List.cons_append]
  unfold Lib.index
  rw [ih ha]
  have : [c].isPrefixOf (x :: (a ++ c :: r)) = false := by simp [List.isPrefixOf]; exact fun e => hx e.symm
  rw [this]
  have h1 : ((a.length : Int) == -1) = false := by rw [beq_eq_false_iff_ne]; omega
  simp [h1]

theorem cut_none_Cb (l : List UInt8) (c : UInt8) (h : c ∉ l) : Lib.cut l [c] = (l, [], false) := by
 unfold Lib.cut
 rw [index_one_none_Cb l c h]; rfl

theorem cut_some_Cb (a r : List UInt8) (c : UInt8) (h : c ∉ a) : Lib.cut (a ++ c :: r) [c] = (a, r, true) := by
 unfold Lib.cut
 rw [index_one_some_Cb a r c h]
 simp

theorem first_split_Cb (c : UInt8) : ∀ l : List UInt8, c ∉ l ∨ ∃ a r, c ∉ a ∧ l = a ++ c :: r
 | [] => .inl (by simp)
 | x :: l => by
  by_cases hx : x = c
  ·exact .inr ⟨[], l, by simp, by simp [hx]⟩
  ·rcases first_split_Cb c l with h | ⟨a, r, ha, rfl⟩
   ·exact .inl (by simp [h]; exact fun e => hx e.symm)
   ·exact .inr ⟨x :: a, r, by simp [ha]; exact fun e => hx e.symm, rfl⟩

def part_Cb (c : UInt8) : List UInt8 → List UInt8 × List UInt8 × Bool
 | [] => ([], [], false)
 | x :: l => if x = c then ([], l, true) else (x :: (part_Cb c l).1, (part_Cb c l).2.1, (part_Cb c l).2.2)

theorem part_none_Cb (c : UInt8) : ∀ l : List UInt8, c ∉ l → part_Cb c l = (l, [], false)
 | [], _ => rfl
 | x :: l, h => by
  have hx : x ≠ c := fun e => h (by simp [e])
  have hl : c ∉ l := fun e => h (by simp [e])
  rw [part_Cb, if_neg hx, part_none_Cb c l hl]

theorem part_some_Cb (c : UInt8) : ∀ (a r : List UInt8), c ∉ a → part_Cb c (a ++ c :: r) = (a, r, true)
 | [], r, _ => by rw [List.nil_append, part_Cb, if_pos rfl]
 | x :: a, r, h => by
  have hx : x ≠ c := fun e => h (by simp [e])
  have hl : c ∉ a := fun e => h (by simp [e])
  rw [List.cons_append, part_Cb, if_neg hx, part_some_Cb c a r hl]

theorem cut_part_Cb (c : UInt8) (l : List UInt8) : Lib.cut l [c] = part_Cb c l := by
 rcases first_split_Cb c l with h | ⟨a, r, h, rfl⟩
 ·rw [cut_none_Cb l c h, part_none_Cb c l h]
 ·rw [cut_some_Cb a r c h, part_some_Cb c a r h]

structure It where
 bits : Int
 want : List UInt8
 opt : List UInt8

end Go.Proofs.YtpopljcmkbchcaaGreatDoor

namespace Go.Proofs.YtpopljcmkbchcaaGreatDoor

open Go.RowKit

theorem row_kept_Cb {w w' : World} {g : Nat} {o : Obj} (h : w.heap[g]? = some o) (hb : Below w.heap.size w w') : w'.heap[g]? = some o := by
 have hlt : g < w.heap.size := by
  rcases Nat.lt_or_ge g w.heap.size with h' | h'
  ·exact h'
  ·rw [Array.getElem?_eq_none h'] at h; cases h
 rw [hb.block g hlt]; exact h

theorem there_row_Cb {w : World} {g n : Nat} {cs : Array Value} {t : TypeId} (h : w.heap[g]? = some (.cells cs t (0, 0))) (hn : n ≤ cs.size) : w.there g 0 n := by
 intro j hj
 constructor
 ·rw [cell_of_row w g _ cs t _ h]; simp; omega
 ·simp [World.frozen?, h]

theorem range_row_Cb {w : World} {g : Nat} {cs : List Value} {t : TypeId} {f : Nat × Nat} (h : w.heap[g]? = some (.cells cs.toArray t f)) : w.rangeAt g 0 cs := by
 intro j v hv
 rw [Nat.zero_add, cell_of_row w g j _ t _ h]
 simpa using hv

theorem kept_cell {w w' : World} {a : Addr} {v : Value} (h : w.cell? a = some v) (hb : Below w.heap.size w w') : w'.cell? a = some v := (hb.cell (World.block_lt_of_cell? w _ h)).trans h

end Go.Proofs.YtpopljcmkbchcaaGreatDoor

namespace Go.Proofs.YtpopljcmkbchcaaGreatDoor

open Go.RowKit

def ItAt (w : World) (v : Value) (L : List It) : Prop :=
 ∃ a cap, v = .slice a L.length cap ∧ L.length ≤ cap ∧ cap ≤ maxLen ∧ ∀ j (hj : j < L.length), ∃ b off, a = some ⟨b, off, none⟩ ∧ w.cell? ⟨b, off + j * 3, none⟩ = some (.int .i64 L[j].bits) ∧ w.cell? ⟨b, off + j * 3 + 1, none⟩ = some (.string ⟨L[j].want.toArray⟩) ∧ w.cell? ⟨b, off + j * 3 + 2, none⟩ = some (.string ⟨L[j].opt.toArray⟩)

theorem ItAt.view {w : World} {v : Value} {L : List It} (h : ItAt w v L) : ∃ a cap, v = .slice a L.length cap ∧ L.length ≤ cap ∧ cap ≤ maxLen ∧ ∀ j (hj : j < L.length), ∃ b off, a = some ⟨b, off, none⟩ ∧ w.cell? ⟨b, off + j * 3, none⟩ = some (.int .i64 L[j].bits) ∧ w.cell? ⟨b, off + j * 3 + 1, none⟩ = some (.string ⟨L[j].want.toArray⟩) ∧ w.cell? ⟨b, off + j * 3 + 2, none⟩ = some (.string ⟨L[j].opt.toArray⟩) := h

theorem ItAt.kept {w w' : World} {v : Value} {L : List It} (h : ItAt w v L) (hb : Below w.heap.size w w') : ItAt w' v L := by
 obtain ⟨a, cap, h1, h2, h3, h4⟩ := h
 refine ⟨a, cap, h1, h2, h3, fun j hj => ?_⟩
 obtain ⟨b, off, e, c1, c2, c3⟩ := h4 j hj
 exact ⟨b, off, e, kept_cell c1 hb, kept_cell c2 hb, kept_cell c3 hb⟩

def Gm (w : World) : Prop := ∃ m, w.cell? ⟨2, 0, none⟩ = some (.int .i64 m)

theorem Gm.kept {w w' : World} (h : Gm w) (hb : Below w.heap.size w w') : Gm w' := by
 obtain ⟨m, hm⟩ := h
 exact ⟨m, kept_cell hm hb⟩

end Go.Proofs.YtpopljcmkbchcaaGreatDoor

namespace Go.Proofs.YtpopljcmkbchcaaGreatDoor

open Go.RowKit

def cW (K : IntKind) (l : List Nat) : List Value := l.map fun (n : Nat) => .int K (n : Int)

theorem cW_len (K : IntKind) (l : List Nat) : (cW K l).length = l.length := by simp [cW]

def Rw (w : World) (g : Nat) (K : IntKind) (t : TypeId) (l : List Nat) : Prop := w.heap[g]? = some (.cells (cW K l).toArray t (0, 0))

theorem Rw.lt {w : World} {g : Nat} {K : IntKind} {t : TypeId} {l : List Nat} (h : Rw w g K t l) : g < w.heap.size := (Array.getElem?_eq_some_iff.1 h).1

theorem Rw.kept {w w' : World} {g : Nat} {K : IntKind} {t : TypeId} {l : List Nat} (h : Rw w g K t l) (hb : Below w.heap.size w w') : Rw w' g K t l := row_kept_Cb h hb

theorem Rw.drew {w : World} {g : Nat} {K : IntKind} {t : TypeId} {l : List Nat} (h : Rw w g K t l) : Rw w.drew g K t l := h

theorem Rw.cell {w : World} {g : Nat} {K : IntKind} {t : TypeId} {l : List Nat} (h : Rw w g K t l) (i : Nat) (hi : i < l.length) : w.cell? ⟨g, i, none⟩ = some (.int K (l.getD i 0 : Nat)) := by
 rw [cell_of_row w g i _ t _ h]
 simp [cW, hi]

theorem Rw.new (w : World) (K : IntKind) (t : TypeId) (l : List Nat) : Rw (w.alloc (.cells (cW K l).toArray t)) w.heap.size K t l := heap_alloc_new w _

theorem Rw.there {w : World} {g : Nat} {K : IntKind} {t : TypeId} {l : List Nat} (h : Rw w g K t l) (n : Nat) (hn : n = l.length) : w.there g 0 n := there_row_Cb h (by simp [cW_len, hn])

theorem Rw.range {w : World} {g : Nat} {K : IntKind} {t : TypeId} {l : List Nat} (h : Rw w g K t l) : w.rangeAt g 0 (cW K l) := range_row_Cb h

def But1 (wr : World) (a : Addr) (u : Value) (X : World) : Prop := Below wr.heap.size (wr.setCell a u) (X.setCell a u)

theorem But1.start (wr : World) (a : Addr) (u : Value) : But1 wr a u wr.drew := ⟨rfl, rfl, rfl, Nat.le_refl _, fun k hk => rfl⟩

theorem size_setCell (w : World) (a : Addr) (u : Value) : (w.setCell a u).heap.size = w.heap.size := by simp [World.setCell]

theorem But1.size {wr X : World} {a : Addr} {u : Value} (h : But1 wr a u X) : wr.heap.size ≤ X.heap.size := by
 have := Below.size h
 rwa [size_setCell, size_setCell] at this

theorem But1.cell {wr X : World} {a : Addr} {u v : Value} (h : But1 wr a u X) {p : Addr} (hp : wr.cell? p = some v) (hne : a ≠ p) : X.cell? p = some v := by
 have h1 := Below.cell h (p := p) (World.block_lt_of_cell? wr p hp)
 rw [World.cell?_setCell_other _ _ _ _ hne, World.cell?_setCell_other _ _ _ _ hne] at h1
 rw [h1]; exact hp

end Go.Proofs.YtpopljcmkbchcaaGreatDoor

namespace Go.Proofs.YtpopljcmkbchcaaGreatDoor

open Go.RowKit

end Go.Proofs.YtpopljcmkbchcaaGreatDoor

namespace Go.Proofs.YtpopljcmkbchcaaGreatDoor

open Go.RowKit

theorem SlB_Cb.at {w : World} {a : Option Addr} {n c : Nat} {l : List UInt8} (h : SlB_Cb w (.slice a n c) l) (k : Nat) (hk : k < l.length) : ∃ x, a = some x ∧ w.cell? (x.add k) = some (.int .u8 (l[k].toNat : Int)) := by
 rcases h with ⟨c, e, rfl⟩ | ⟨x, c, e, hc⟩
 ·simp at hk
 ·obtain ⟨rfl, _, _⟩ := Value.slice.inj e
  exact ⟨x, rfl, hc k hk⟩

end Go.Proofs.YtpopljcmkbchcaaGreatDoor

namespace Go.Proofs.YtpopljcmkbchcaaGreatDoor

open Go.RowKit

end Go.Proofs.YtpopljcmkbchcaaGreatDoor

namespace Go.Proofs.YtpopljcmkbchcaaGreatDoor

open Go.RowKit

def RtAt (w : World) (v : Value) (L : List It) : Prop :=
 ∃ a cap, v = .slice a L.length cap ∧ L.length ≤ cap ∧ cap ≤ maxLen ∧ ∀ j (hj : j < L.length), ∃ b off, a = some ⟨b, off, none⟩ ∧ w.cell? ⟨b, off + j * 3, none⟩ = some (.int .i64 L[j].bits) ∧ w.cell? ⟨b, off + j * 3 + 1, none⟩ = some (.string ⟨L[j].want.toArray⟩) ∧ w.cell? ⟨b, off + j * 3 + 2, none⟩ = some (.string ⟨L[j].opt.toArray⟩)

theorem RtAt.view {w : World} {v : Value} {L : List It} (h : RtAt w v L) : ∃ a cap, v = .slice a L.length cap ∧ L.length ≤ cap ∧ cap ≤ maxLen ∧ ∀ j (hj : j < L.length), ∃ b off, a = some ⟨b, off, none⟩ ∧ w.cell? ⟨b, off + j * 3, none⟩ = some (.int .i64 L[j].bits) ∧ w.cell? ⟨b, off + j * 3 + 1, none⟩ = some (.string ⟨L[j].want.toArray⟩) ∧ w.cell? ⟨b, off + j * 3 + 2, none⟩ = some (.string ⟨L[j].opt.toArray⟩) := h

end Go.Proofs.YtpopljcmkbchcaaGreatDoor

namespace Go.Proofs.YtpopljcmkbchcaaGreatDoor

open Go.RowKit

def Gp (w : World) : Prop := Lib.TabIs Tryz.prog w "internal/strconv.uint64pow10" .u64 Lib.pow10Tab

theorem gPow9 : Tryz.prog.globalNamed "internal/strconv.uint64pow10" = some 0 := by kernel_rfl

theorem Gp.kept {w w' : World} (h : Gp w) (hb : Below w.heap.size w w') : Gp w' := Joins.tab_stays gPow9 h hb (Nat.le_refl _)

end Go.Proofs.YtpopljcmkbchcaaGreatDoor

namespace Go.Proofs.YtpopljcmkbchcaaGreatDoor

open Go.RowKit

theorem ret_ssb9 {a b c d : ByteArray} {x y : Bool} (h : a = b) (g : c = d) (k : x = y) : Ending.returned (.tuple #[.string a, .string c, .bool x]) = .returned (.tuple #[.string b, .string d, .bool y]) := by rw [h, g, k]

theorem byte_is9 {a b : UInt8} (h : a = b) : ((a.toNat : Int) == (b.toNat : Int)) = true := by rw [h]; simp

theorem byte_not9 {a b : UInt8} (h : a ≠ b) : ((a.toNat : Int) == (b.toNat : Int)) = false := by
 rw [beq_eq_false_iff_ne]
 intro e
 exact h (UInt8.toNat_inj.1 (by omega))

theorem ba_ext9 {a b : ByteArray} (h : a.data.toList = b.data.toList) : a = b := by
 cases a; cases b; simp at h; simp [h]

set_option maxHeartbeats 1000000 in
theorem rpart9_any (s : ByteArray) (c : UInt8) (w : World) (hs : s.size ≤ 4000000000) :
  Calls Tryz.prog 111 #[.string s, .int .u8 (c.toNat : Int)] w fun e w' => e = .returned (.tuple #[.string ⟨(part_Cb c s.data.toList).1.toArray⟩, .string ⟨(part_Cb c s.data.toList).2.1.toArray⟩, .bool (part_Cb c s.data.toList).2.2]) ∧ Below w.heap.size w w' := by
 go_enter Tryz.func111, Tryz.ntmps111
 go_wp2
 go_loop [7] (fun i => ∃ k : Nat, k ≤ s.size ∧ i = .int .i64 k ∧ c ∉ s.data.toList.take k) (fun i => s.size - (intOf i).toNat)
 case atStart => exact ⟨0, Nat.zero_le _, rfl, by simp⟩
 case round =>
  obtain ⟨k, hk, rfl, hno⟩ := hrel
  have HN := hid hno
  clear hno
  have hc8 := c.toNat_lt
  by_cases hlt : k < s.size
  ·have hk' : (k : Int) ≤ (s.size : Int) := by omega
   have hk2 : (k : Int) + 1 ≤ (s.size : Int) := by omega
   by_cases he : s[k] = c
   ·have HV := hid (show part_Cb c s.data.toList = (s.data.toList.take k, s.data.toList.drop (k + 1), true) by
     have e : s.data.toList = s.data.toList.take k ++ c :: s.data.toList.drop (k + 1) := by
      have := (List.take_append_drop k s.data.toList).symm
      rw [drop_cons s k hlt, he] at this
      exact this
     have h2 := part_some_Cb c (s.data.toList.take k) (s.data.toList.drop (k + 1)) HN.out
     rw [← e] at h2
     exact h2)
    have e1 : ((s[k].toNat : Int) == (c.toNat : Int)) = true := byte_is9 he
    clear he
    go_wp2
    go_region
    go_wp2
    go_ret3
    refine ⟨?_, (Below.refl _ w).drew⟩
    rw [HV.out]
    refine ret_ssb9 ?_ ?_ rfl
    ·exact ba_ext9 (by rw [Lib.extract_data]; simp)
    ·first | exact ba_ext9 (by rw [extract_drop]) | exact ba_ext9 (by rw [show ((k : Int) + 1).toNat = k + 1 by omega, extract_drop])
   ·have HT := hid (take_snoc s k hlt)
    have e1 : ((s[k].toNat : Int) == (c.toNat : Int)) = false := byte_not9 he
    have HN2 := hid (show c ∉ s.data.toList.take (k + 1) by
     rw [HT.out, List.mem_append]
     rintro (h | h)
     ·exact HN.out h
     ·simp at h; exact he h.symm)
    clear he
    go_wp2
    go_round
    case rel => exact ⟨k + 1, by omega, by go_num, HN2.out⟩
    case measure => simp [intOf]; omega
  ·have hno := HN.out
   rw [take_all s k hlt] at hno
   have HV := hid (part_none_Cb c _ hno)
   clear hno
   go_wp2
   go_ret3
   rw [HV.out]
   exact ⟨ret_ssb9 (Lib.mk_data s).symm rfl rfl, Below.refl _ _⟩

end Go.Proofs.YtpopljcmkbchcaaGreatDoor
