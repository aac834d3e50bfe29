/-
  Walks and plain facts that this claim leans on, put together out of 1 texts: Zz.
-/
import Derived.Test.YtooihpkoplgmbaaDoorProg
import Derived.Test.YtooihpkoplgmbaaDoorTie
import Derived.Test.YtooihpkoplgmbaaDoorQa1
import Derived.Test.YtooihpkoplgmbaaDoorQa2
import Derived.Test.YtooihpkoplgmbaaDoorQa7
import Derived.WalkKit
import Derived.Lib.Strings
import Derived.Lib.UnsafeStr
import Derived.Laws.IdiomStrings
import Derived.Laws.AppendOwn
import Derived.Laws.BitsAllLaws
import Derived.Lib.Bytealg
import Derived.Lib.BufferMore
import Derived.Shelf.Strings.Builder1
import Derived.Shelf.Strings.Builder2
import Derived.Shelf.Strings.OnBuilder
import Derived.Shelf.Strings.Trim
import Derived.Shelf.Small.Utf8
import Derived.Shelf.Small.Bits
import Derived.Shelf.Small.Strs
import Derived.Shelf.Small.Wraps
import Derived.Shelf.Strings.BuilderF
import Derived.Shelf.Strings.BuilderK
import Derived.Shelf.Strings.Builder2Cap
import Derived.Shelf.Strconv.Itoa0
import Derived.Shelf.Strings.Search1
import Derived.Shelf.Strings.Search2
import Derived.Shelf.Strings.Cut
import Derived.Shelf.LaysM
import Derived.Shelf.Strings.Shaped
import Derived.Shelf.Sort.Plain
import Derived.Shelf.Strings.Prefix
import Derived.Shelf.Strings.Runes
import Derived.Shelf.Strings.AsciiSet
import Derived.Shelf.Unicode.DecodeSlow
import Derived.Shelf.Slices.CompactS
import Derived.Shelf.Slices.In.SortNone
import Derived.WalkSpells
import Derived.WalkLawsBesides
import Derived.Lib.SlTrimSet
import Derived.Lib.Join
import Derived.Lib.IndexMore
import Derived.Laws.OwnMore
import Derived.Below
import Derived.WalkSmall
import Derived.Lib.SmallJoins
import Derived.Deep.QuietTactic
import Derived.BigQuiet
import Derived.Deep.LoopGhost
import Derived.Deep.MidRow
import Derived.Shelf.Strings.SlTrimAscii
import Derived.Stop.LaidErr
import Derived.LaidMore
import Derived.Deep.SlicePairs
import Derived.SizedLaws
set_option linter.unusedSimpArgs false
set_option linter.unusedVariables false

namespace Go.Proofs.YtooihpkoplgmbaaDoor
open Go.RowKit

section

variable {H : Type} {P : Program}

theorem wAll_mem {e : TypeId} : ∀ {l : List (DataW H)} {d : DataW H}, d ∈ l → ∀ n ∈ d.weights P e, n ∈ DataW.weightsAll P e l
 | [], _, h, _, _ => by cases h
 | a :: l, d, h, n, hn => by
  rw [DataW.weightsAll, List.mem_append]
  rcases List.mem_cons.1 h with rfl | h
  ·exact .inl hn
  ·exact .inr (wAll_mem h n hn)

theorem sized_hd {ts : List TypeId} {ds : List (DataW H)} (h : (DataW.weightsEach P ts ds).all (· ≤ reachBytes) = true) {j : Nat} {t e : TypeId} {f0 f1 : Field} {elems spare : List (DataW H)} (ht : ts[j]? = some t) (hd : ds[j]? = some (.slice elems spare))
  (hu : P.underlying t = some (.slice e)) (he : P.underlying e = some (.struct #[f0, f1])) {x y : List UInt8} (hm : DataW.agg [.lit (.string x), .lit (.string y)] ∈ elems) : x.length ≤ 140737488351232 ∧ y.length ≤ 140737488351232 := by
 have key : ∀ n ∈ (DataW.agg [.lit (.string x), .lit (.string y)] : DataW H).weights P e, n ≤ 140737488351232 := fun n hn => by
  have h1 : n ∈ DataW.weightsAll P e elems := wAll_mem hm n hn
  have h2 : n ∈ (DataW.slice elems spare : DataW H).weights P t := by
   rw [DataW.weights, hu]
   simp only [List.mem_cons, List.mem_append]
   exact .inr (.inl h1)
  have := List.all_eq_true.1 h _ (DataW.weights_mem_each ht hd n h2)
  exact of_decide_eq_true this
 constructor
 ·exact key x.length (by rw [DataW.weights, he]; simp [DataW.weightsEach, DataW.weights])
 ·exact key y.length (by rw [DataW.weights, he]; simp [DataW.weightsEach, DataW.weights])

end

theorem undHd : ∃ f0 f1, Tryd.prog.underlying 26 = some (.struct #[f0, f1]) ∧ f0.offset = 0 ∧ f1.offset = 1 ∧ f0.type = 9 ∧ f1.type = 9 := ⟨_, _, Tryd.underlying26, rfl, rfl, rfl, rfl⟩

theorem addr_add {x : Addr} (h : x.spot = none) (j : Nat) : x.add j = ⟨x.block, x.off + j, none⟩ := by
 unfold Addr.add
 split
 ·subst_vars; rw [← h]; rfl
 ·rfl

theorem hd_arg {H : Type} {enc : TypeId × Value → H} {W : World} {a : Option Addr} {len cap : Nat} {d : DataW H} {p : List MemPlace} {ts : List TypeId} {ds : List (DataW H)} {j fuel : Nat}
  (hf : DataW.trod enc Tryd.prog W 0 (fun _ => true) true fuel 27 [.slice a len cap] = some (d, p)) (hwt : (DataW.weightsEach Tryd.prog ts ds).all (· ≤ reachBytes) = true) (ht : ts[j]? = some 27) (hd : ds[j]? = some d) :
  ∃ L, HdAt W (.slice a len cap) L ∧ Szd 140737488351232 L := by
 obtain ⟨f0, f1, hu, o0, o1, t0, t1⟩ := undHd
 have c1 : Tryd.prog.cellsOf 9 = 1 := by kernel_rfl
 rcases Deep.open_slice_pairs Tryd.underlying27 hu (by kernel_rfl) o0 o1 (by rw [t0]; exact c1) (by rw [t1]; exact c1) hf with ⟨hcs, _⟩ | ⟨x, len', cap', m, n, V0, V1, D0, D1, P0, P1, hcs, _, hl, hm, hmm, hx, hcell⟩
 ·simp at hcs
  obtain ⟨rfl, rfl, rfl⟩ := hcs
  exact ⟨[], hd_nil _, fun h hh => by simp at hh⟩
 ·simp at hcs
  obtain ⟨rfl, rfl, rfl⟩ := hcs
  have hlm : len ≤ m := by rw [hmm]; simp; omega
  have hx1 := (Prod.mk.injEq _ _ _ _ ▸ hx : _ ∧ _).1
  have each : ∀ i, i < len → ∃ s : ByteArray × ByteArray, W.cell? (x.add (i * 2)) = some (.string s.1) ∧ W.cell? (x.add (i * 2 + 1)) = some (.string s.2) ∧ s.1.data.toList.length ≤ 140737488351232 ∧ s.2.data.toList.length ≤ 140737488351232 := fun i hi => by
   obtain ⟨q0, q1, r0, r1⟩ := hcell i (by omega)
   rw [t0] at r0
   rw [t1] at r1
   obtain ⟨s0, e0, y0, _⟩ := DataW.trod_string Tryd.underlying9 r0
   obtain ⟨s1, e1, y1, _⟩ := DataW.trod_string Tryd.underlying9 r1
   simp at e0 e1 y0 y1
   rw [e0] at q0
   rw [e1] at q1
   have hmem : DataW.agg [.lit (.string s0.data.toList), .lit (.string s1.data.toList)] ∈ ((List.range len).map fun i => (DataW.agg [D0 i, D1 i] : DataW H)) := by
    rw [List.mem_map]
    refine ⟨i, by simpa using hi, ?_⟩
    rw [y0.1, y1.1]
   have := sized_hd hwt ht (by rw [hd, hx1]) Tryd.underlying27 hu hmem
   exact ⟨(s0, s1), q0, q1, this⟩
  obtain ⟨F, hF⟩ := Deep.choose_lt each
  have hL : ((List.range len).map fun i => (⟨(F i).1.data.toList, (F i).2.data.toList⟩ : Hd)).length = len := by simp
  refine ⟨(List.range len).map fun i => ⟨(F i).1.data.toList, (F i).2.data.toList⟩, ⟨some x, cap, by rw [hL], by rw [hL]; exact hl, hm, fun i hi => ?_⟩, fun h hh => ?_⟩
  ·rw [hL] at hi
   have h0 := hF 0 (by omega)
   have hsp : x.spot = none := spot_none (by simpa [Addr.add] using h0.1)
   obtain ⟨q0, q1, _⟩ := hF i hi
   rw [addr_add hsp] at q0 q1
   refine ⟨x.block, x.off, by rw [← hsp], ?_, ?_⟩
   ·rw [q0]; simp
   ·rw [Nat.add_assoc, q1]; simp
  ·rw [List.mem_map] at hh
   obtain ⟨i, hi, rfl⟩ := hh
   exact (hF i (by simpa using hi)).2.2

end Go.Proofs.YtooihpkoplgmbaaDoor
