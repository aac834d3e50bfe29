/-
  Walks and plain facts that this claim leans on, put together out of 4 texts: Eza, Ezd, Eze, Ezc.
-/
import Derived.Test.YtgoefeaopegdoaaGreatDoorProg
import Derived.Test.YtgoefeaopegdoaaGreatDoorQx1
import Derived.Test.YtgoefeaopegdoaaGreatDoorQx3
import Derived.Test.YtgoefeaopegdoaaGreatDoorQx5
import Derived.Test.YtgoefeaopegdoaaGreatDoorQx6
import Derived.Test.YtgoefeaopegdoaaGreatDoorQx8
import Derived.Test.YtgoefeaopegdoaaGreatDoorQx9
import Derived.Test.YtgoefeaopegdoaaGreatDoorQx10
import Derived.Test.YtgoefeaopegdoaaGreatDoorQx11
import Derived.Test.YtgoefeaopegdoaaGreatDoorQx12
import Derived.Test.YtgoefeaopegdoaaGreatDoorQx17
import Derived.Test.YtgoefeaopegdoaaGreatDoorQx21
import Derived.Test.YtgoefeaopegdoaaGreatDoorQx23
import Derived.Test.YtgoefeaopegdoaaGreatDoorQx24
import Derived.Test.YtgoefeaopegdoaaGreatDoorQx25
import Derived.Test.YtgoefeaopegdoaaGreatDoorQx27
import Derived.Test.YtgoefeaopegdoaaGreatDoorQx28
import Derived.Deep.Cut
import Derived.Deep.QuietTactic
import Derived.BigQuiet
import Derived.BigRegion
import Derived.Deep.RegionHeld
import Derived.Lib.IndexMore
import Derived.Lib.Join
import Derived.Lib.LastIndexByte
import Derived.WalkKit
import Derived.Lib.Strings
import Derived.Lib.UnsafeStr
import Derived.Laws.IdiomStrings
import Derived.Laws.AppendOwn
import Derived.Laws.BitsAllLaws
import Derived.Lib.Bytealg
import Derived.Lib.BufferMore
import Derived.Lib.BufferRead
import Derived.Lib.RuneBytes
import Derived.Laws.RangeAny
import Derived.LoopN
import Derived.RegionTactic
import Derived.Deep.RegionWith
import Derived.OwnWalk
import Derived.Deep.RegionLaw
import Derived.Laws.OwnMore
import Derived.Deep.LoopGhost
import Derived.Shelf.Strings.Builder1
import Derived.Shelf.Strings.Builder2
import Derived.Shelf.Strings.OnBuilder
import Derived.Shelf.Strings.Trim
import Derived.Shelf.Small.Utf8
import Derived.Shelf.Small.Bits
import Derived.Shelf.Small.Strs
import Derived.Shelf.Small.Wraps
import Derived.Shelf.Strings.BuilderF
import Derived.Shelf.Strings.BuilderK
import Derived.Shelf.Strings.BuilderRune
import Derived.Shelf.Utf8.AppendRune
import Derived.Shelf.Utf8.AppendRunePlain
import Derived.Shelf.Strings.Builder2Cap
import Derived.Shelf.Strconv.Itoa0
import Derived.Shelf.Strconv.Itoa1
import Derived.Shelf.LaysM
import Derived.Shelf.Strconv.Itoa2
import Derived.Shelf.Strconv.Itoa3
import Derived.Shelf.Strings.Search1
import Derived.Shelf.Strings.Search2
import Derived.Shelf.Strings.Search3
import Derived.Shelf.Strings.Cut
import Derived.Shelf.Strings.Count
import Derived.Shelf.Strings.Shaped
import Derived.Shelf.Strings.LastIndex
import Derived.Shelf.Strings.Prefix
import Derived.Shelf.Strings.Split
import Derived.Shelf.Strings.Replace
import Derived.Shelf.Strings.Runes
import Derived.Shelf.Strings.IndexAny
import Derived.Shelf.Strings.AsciiSet
import Derived.Shelf.Strings.IndexAnyAll
import Derived.Shelf.Unicode.DecodeSlow
import Derived.Ground.Names2Prog
import Derived.Shelf.Slices.Clone
import Derived.Shelf.Slices.In.SortNone
import Derived.Ground.SlgnProg
import Derived.Shelf.SlicesE.Clone
import Derived.Laws.AppendOwnNone
import Derived.Scope
import Derived.ScopeJumps
import Derived.WalkMore
import Derived.Lib.IndexAny
import Derived.Lib.Replace
import Derived.Lib.TrimByte
import Derived.Lib.ItoaNum
import Derived.Lib.DecodeN
import Derived.Lib.OthersKept
import Derived.Laws.BytesString
import Derived.Deep.WholeRow
import Derived.Lib.AppendStr
import Derived.WalkSpells
import Derived.WalkLawsBesides
import Derived.Lib.AppendIntMem
import Derived.Lib.SmallJoins
import Derived.WalkSmall
import Derived.Laws.CopyOwn
import Derived.Laws.ResultCell
import Derived.Deep.MidRow
import Derived.Lib.FrozenHead2
import Derived.Lib.Builder
import Derived.Lib.SlTrimSet
import Derived.Below
import Derived.Shelf.Strings.SlTrimAscii
import Derived.Laws.Runes
set_option linter.unusedSimpArgs false
set_option linter.unusedVariables false

namespace Go.Proofs.YtgoefeaopegdoaaGreatDoor
open Go.RowKit

def sumL (L : List (List UInt8)) : Nat := (L.map (fun p => p.length + 1)).sum

theorem cut15_sum (c : UInt8) : ∀ l : List UInt8, sumL (cutL c l) = l.length + 1
 | [] => rfl
 | x :: l => by
  have ih := cut15_sum c l
  rw [cutL]
  split
  ·unfold sumL at ih ⊢
   rw [List.map_cons, List.sum_cons, ih]
   simp; omega
  ·cases h : cutL c l with
   | nil => exact absurd h (cutL_ne c l)
   | cons a t =>
    rw [h] at ih
    unfold sumL at ih ⊢
    rw [List.map_cons, List.sum_cons] at ih ⊢
    simp only [List.length_cons]
    omega

theorem join15_sum (c : UInt8) : ∀ L : List (List UInt8), (Lib.join L [c]).length ≤ sumL L
 | [] => by simp [Lib.join, List.intercalate]
 | [x] => by simp [Lib.join, List.intercalate, sumL]
 | x :: y :: L => by
  have ih := join15_sum c (y :: L)
  have e : Lib.join (x :: y :: L) [c] = x ++ ([c] ++ Lib.join (y :: L) [c]) := by simp [Lib.join, List.intercalate]
  rw [e, List.length_append, List.length_append]
  have e2 : sumL (x :: y :: L) = (x.length + 1) + sumL (y :: L) := by unfold sumL; rw [List.map_cons, List.sum_cons]
  rw [e2]
  simp only [List.length_cons, List.length_nil]
  omega

theorem drop15_sum : ∀ (k : Nat) (L : List (List UInt8)), sumL (L.drop k) ≤ sumL L
 | 0, L => Nat.le_refl _
 | k + 1, [] => Nat.le_refl _
 | k + 1, x :: L => by
  have ih := drop15_sum k L
  have e2 : sumL (x :: L) = (x.length + 1) + sumL L := by unfold sumL; rw [List.map_cons, List.sum_cons]
  rw [e2, List.drop_succ_cons]
  omega

theorem len15_sum : ∀ L : List (List UInt8), L.length ≤ sumL L
 | [] => Nat.zero_le _
 | x :: L => by
  have ih := len15_sum L
  have e2 : sumL (x :: L) = (x.length + 1) + sumL L := by unfold sumL; rw [List.map_cons, List.sum_cons]
  rw [e2, List.length_cons]
  omega

theorem siteOk15 {o : Org} (h : o.host.length ≤ 1000000) : SiteOk o := by
 have h1 := cut15_sum 46 o.host
 refine ⟨h, ?_, ?_⟩
 ·have := len15_sum (cutL 46 o.host); omega
 ·have := join15_sum 46 ((cutL 46 o.host).drop (aheadO o.host))
  have := drop15_sum (aheadO o.host) (cutL 46 o.host)
  omega

theorem org_hl {u : Adr} (h : TrOk u) : (orgV u).host.length ≤ 1000000 := by
 unfold orgV
 split
 ·unfold orgA
  split
  ·exact (inn_tr u).2.2
  ·exact h.2.2
 ·decide

theorem siteU15 {u : Adr} (h : TrOk u) : SiteOk (orgV u) := siteOk15 (org_hl h)

def r15 (o : Org) (u : Adr) : Nat := if ssV o (orgV u) then (if sameO o (orgV u) then 0 else 1) else 2

def rk15 (o : Org) : List Adr → Nat
 | [] => 0
 | u :: l => max (r15 o u) (rk15 o l)

theorem r15_le (o : Org) (u : Adr) : r15 o u ≤ 2 := by unfold r15; split <;> (try split) <;> decide

theorem rk15_le (o : Org) : ∀ l, rk15 o l ≤ 2
 | [] => Nat.zero_le _
 | u :: l => by
  have h1 := r15_le o u
  have h2 := rk15_le o l
  rw [rk15]; omega

theorem rk15_app (o : Org) : ∀ a b, rk15 o (a ++ b) = max (rk15 o a) (rk15 o b)
 | [], b => by rw [List.nil_append, rk15]; omega
 | u :: a, b => by
  rw [List.cons_append, rk15, rk15, rk15_app o a b]; omega

theorem rk15_take (o : Org) (l : List Adr) (k : Nat) : rk15 o (l.take k) ≤ rk15 o l := by
 have h := rk15_app o (l.take k) (l.drop k)
 rw [List.take_append_drop] at h
 omega

theorem rk15_snoc (o : Org) (l : List Adr) (k : Nat) (h : k < l.length) : rk15 o (l.take (k + 1)) = max (rk15 o (l.take k)) (r15 o l[k]) := by
 rw [List.take_succ_eq_append_getElem h, rk15_app, rk15, rk15]; omega

theorem rk15_two (o : Org) (l : List Adr) (k : Nat) (h : k < l.length) (h2 : r15 o l[k] = 2) : rk15 o l = 2 := by
 have h1 := rk15_take o l (k + 1)
 rw [rk15_snoc o l k h, h2] at h1
 have := rk15_le o l
 omega

def wd15 (k : Nat) : ByteArray := match k with
 | 0 => ⟨#[115, 97, 109, 101, 45, 111, 114, 105, 103, 105, 110]⟩
 | 1 => ⟨#[115, 97, 109, 101, 45, 115, 105, 116, 101]⟩
 | _ => ⟨#[99, 114, 111, 115, 115, 45, 115, 105, 116, 101]⟩

def cellsU (P : List (Adr × Value)) : List Value := P.flatMap fun p => adrCells p.1 p.2

theorem cellsU_app (a b : List (Adr × Value)) : cellsU (a ++ b) = cellsU a ++ cellsU b := by simp [cellsU]

theorem cellsU_one (u : Adr) (v : Value) : cellsU [(u, v)] = adrCells u v := by simp [cellsU]

theorem adrCells_len15 (u : Adr) (v : Value) : (adrCells u v).length = 12 := rfl

theorem cellsU_len : ∀ L : List (Adr × Value), (cellsU L).length = L.length * 12
 | [] => rfl
 | p :: L => by
  have e : cellsU (p :: L) = adrCells p.1 p.2 ++ cellsU L := rfl
  rw [e, List.length_append, cellsU_len L, adrCells_len15, List.length_cons]; omega

theorem cellsU_at : ∀ (L : List (Adr × Value)) (i : Nat) (h : i < L.length) (j : Nat) (v : Value), (adrCells L[i].1 L[i].2)[j]? = some v → (cellsU L)[i * 12 + j]? = some v
 | [], i, h, _, _, _ => by simp at h
 | p :: L, 0, _, j, v, hv => by
  have hj : j < 12 := (List.getElem?_eq_some_iff.1 hv).1
  have e : cellsU (p :: L) = adrCells p.1 p.2 ++ cellsU L := rfl
  rw [e, Nat.zero_mul, Nat.zero_add, List.getElem?_append_left (by rw [adrCells_len15]; exact hj)]
  exact hv
 | p :: L, i + 1, h, j, v, hv => by
  have e : cellsU (p :: L) = adrCells p.1 p.2 ++ cellsU L := rfl
  rw [e, List.getElem?_append_right (by rw [adrCells_len15]; omega), adrCells_len15, show (i + 1) * 12 + j - 12 = i * 12 + j by omega]
  exact cellsU_at L i (by simpa using h) j v hv

def UlAt (w : World) (v : Value) (P : List (Adr × Value)) : Prop :=
 ∃ a cap, v = .slice a P.length cap ∧ P.length ≤ cap ∧ cap ≤ maxLen ∧ ∀ i (h : i < P.length), ∃ g o, a = some ⟨g, o, none⟩ ∧ w.rangeAt g (o + i * 12) (adrCells P[i].1 P[i].2) ∧ PathAt w P[i].2 P[i].1.path ∧ TrOk P[i].1

theorem UlAt.view {w : World} {v : Value} {P : List (Adr × Value)} (h : UlAt w v P) : ∃ a cap, v = .slice a P.length cap ∧ P.length ≤ cap ∧ cap ≤ maxLen ∧ ∀ i (h : i < P.length), ∃ g o, a = some ⟨g, o, none⟩ ∧ w.rangeAt g (o + i * 12) (adrCells P[i].1 P[i].2) ∧ PathAt w P[i].2 P[i].1.path ∧ TrOk P[i].1 := h

theorem range_kept {w w' : World} {g o : Nat} {cs : List Value} (h : w.rangeAt g o cs) (hb : Below w.heap.size w w') : w'.rangeAt g o cs := fun j v hv => by
 have h1 := h j v hv
 exact (hb.cell (World.block_lt_of_cell? w _ h1)).trans h1

theorem UlAt.kept {w w' : World} {v : Value} {P : List (Adr × Value)} (h : UlAt w v P) (hb : Below w.heap.size w w') : UlAt w' v P := by
 obtain ⟨a, cap, e, h1, h2, h3⟩ := h
 refine ⟨a, cap, e, h1, h2, fun i hi => ?_⟩
 obtain ⟨g, o, e1, e2, e3, e4⟩ := h3 i hi
 exact ⟨g, o, e1, range_kept e2 hb, e3.kept hb, e4⟩

theorem ul_nil (w : World) : UlAt w (.slice none 0 0) [] := ⟨none, 0, rfl, Nat.le_refl _, by decide, fun j hj => by simp at hj⟩

theorem UlAt.take {w : World} {a : Option Addr} {n cap : Nat} {P : List (Adr × Value)} (h : UlAt w (.slice a n cap) P) (k : Nat) (hk : k ≤ P.length) : UlAt w (.slice a k cap) (P.take k) := by
 obtain ⟨a', cap', e, h1, h2, h3⟩ := h
 injection e with e1 e2 e3
 subst e1; subst e3
 have hl : (P.take k).length = k := by rw [List.length_take]; omega
 refine ⟨a, cap, by rw [hl], by rw [hl]; omega, h2, fun i hi => ?_⟩
 rw [hl] at hi
 obtain ⟨g, o, e1, e2, e3, e4⟩ := h3 i (by omega)
 rw [List.getElem_take]
 exact ⟨g, o, e1, e2, e3, e4⟩

theorem own_ul {w : World} {B : Nat} {v : Value} {P : List (Adr × Value)} (h : w.ownsRow B 34 12 v P.length (cellsU P)) (hp : ∀ p ∈ P, PathAt w p.2 p.1.path ∧ TrOk p.1) : UlAt w v P := by
 rcases h.2 with ⟨rfl, h0⟩ | ⟨g, cap, cur, rfl, hb, hg, h1, h2, h3, h4⟩
 ·have : P = [] := List.eq_nil_of_length_eq_zero h0
  subst this
  exact ul_nil w
 ·refine ⟨_, cap, rfl, h1, h2, fun i hi => ⟨g, 0, rfl, fun j u hu => ?_, hp _ (List.getElem_mem hi)⟩⟩
  have hc := cellsU_at P i hi j u hu
  have := h.cellAt (i * 12 + j) (by
   have := (List.getElem?_eq_some_iff.1 hc).1
   rw [cellsU_len] at this
   exact this)
  rw [Nat.zero_add, this]
  exact hc

end Go.Proofs.YtgoefeaopegdoaaGreatDoor

namespace Go.Proofs.YtgoefeaopegdoaaGreatDoor
open Go.RowKit

def okU (r : Except Int Adr) : List Adr := match r with
 | .ok u => [u]
 | .error _ => []

def urlsT (L : List (List UInt8)) : List Adr := L.flatMap (fun s => okU (urlV s))

def urlsV (L : List (List UInt8)) : List Adr := urlsT (L.take 8)

theorem urlsT_snoc (L : List (List UInt8)) (k : Nat) (h : k < L.length) : urlsT (L.take (k + 1)) = urlsT (L.take k) ++ okU (urlV L[k]) := by
 unfold urlsT
 rw [List.take_succ_eq_append_getElem h, List.flatMap_append]
 simp

theorem okU_le (r : Except Int Adr) : (okU r).length ≤ 1 := by cases r <;> simp [okU]

theorem urlsT_le (L : List (List UInt8)) (k : Nat) : (urlsT (L.take k)).length ≤ k := by
 induction k with
 | zero => simp [urlsT]
 | succ k ih =>
  by_cases h : k < L.length
  ·rw [urlsT_snoc L k h, List.length_append]
   have := okU_le (urlV L[k])
   omega
  ·rw [List.take_of_length_le (by omega)]
   rw [List.take_of_length_le (by omega)] at ih
   omega

theorem infoUl : (Tryz.prog.info? 34).map (fun i => (i.zero, i.size, i.bytes)) = some (some (.agg #[.string ⟨#[]⟩, .string ⟨#[]⟩, .string ⟨#[]⟩, .string ⟨#[]⟩, .bool false, .int .i64 0, .bool false, .slice none 0 0, .string ⟨#[]⟩, .string ⟨#[]⟩, .bool false, .bool false]), 12, 152) := by kernel_rfl

def UlO (w : World) (B : Nat) (P : List (Adr × Value)) : Prop := ∀ p ∈ P, w.ownsRow B 9 1 p.2 p.1.path.length (cellsS p.1.path) ∧ TrOk p.1

theorem UlO.kept {w w' : World} {B : Nat} {P : List (Adr × Value)} (h : UlO w B P) (hb : Below w.heap.size w w') : UlO w' B P := fun p hp => ⟨own_kept (h p hp).1 hb, (h p hp).2⟩

theorem UlO.grown {w w' : World} {B n : Nat} {v : Value} {cs : List Value} {P : List (Adr × Value)} (h : UlO w B P) (hv : w.ownsRow B 34 12 v n cs) (hg : w.grownBy w' v.ownBlock) : UlO w' B P := fun p hp => by
 refine ⟨ownsRow_same (h p hp).1 fun g e => ?_, (h p hp).2⟩
 obtain ⟨cur, hc⟩ := ownsRow_kind (h p hp).1 g e
 refine hg.block g (Array.getElem?_eq_some_iff.1 hc).1 (fun e2 => ?_)
 obtain ⟨c2, hc2⟩ := ownsRow_kind hv g e2.symm
 rw [hc] at hc2
 injection hc2 with hc2
 injection hc2 with _ hc2 _
 exact absurd hc2 (by decide)

def UrI (w : World) (v : Value) (A : List Adr) (wr : World) : Prop := ∃ P, P.map (·.1) = A ∧ wr.ownsRow w.heap.size 34 12 v A.length (cellsU P) ∧ UlO wr w.heap.size P ∧ Below w.heap.size w wr

def UrPost (A : List Adr) (w : World) (e : Ending) (w' : World) : Prop := ∃ v P, e = .returned v ∧ P.map (·.1) = A ∧ UlAt w' v P ∧ Below w.heap.size w w'

theorem UrI.post {w wr : World} {v : Value} {A : List Adr} (h : UrI w v A wr) : UrPost A w (.returned v) wr := by
 obtain ⟨P, h1, h2, h3, h4⟩ := h
 refine ⟨v, P, rfl, h1, own_ul (by rw [← h1, List.length_map] at h2; exact h2) (fun p hp => ⟨own_path (h3 p hp).1, (h3 p hp).2⟩), h4⟩

theorem UrI.below {w wr w' : World} {v : Value} {A : List Adr} (h : UrI w v A wr) (hb : Below wr.heap.size wr w') : UrI w v A w' := by
 obtain ⟨P, h1, h2, h3, h4⟩ := h
 exact ⟨P, h1, own_kept h2 hb, h3.kept hb, below2 h4 hb⟩

set_option maxHeartbeats 8000000 in
set_option maxRecDepth 100000 in
theorem urls15_any (v : Value) (L : List (List UInt8)) (w : World) (hv : TxAt w v L) (hz : ∀ x ∈ L, x.length ≤ maxLen) :
  Calls Tryz.prog 16 #[v] w (UrPost (urlsV L) w) := by
 obtain ⟨i0, hi, hz0, hz1, hz2⟩ := info3 infoUl
 obtain ⟨a1, c1, rfl, hc1, hm1, hv1⟩ := hv.view
 have HV := hid hv1
 have HZ := hid hz
 obtain ⟨n, hn⟩ : ∃ n, n = L.length := ⟨_, rfl⟩
 have HN := hid hn
 have hnm : n ≤ 9223372036854775807 := by rw [hn]; unfold maxLen at hm1; omega
 rw [← hn] at hc1 ⊢
 have H0 := hid (show UrI w (.slice none 0 0) (urlsT (L.take 0)) w from ⟨[], rfl, World.ownsRow_nil _ _ _ _, fun p hp => by simp at hp, Below.refl _ _⟩)
 clear hv hv1 hn hz hm1
 go_enter Tryz.func16, Tryz.ntmps16
 go_wp2_with fail
 go_loopw [3, 4] (fun v3 v4 wr => ∃ k : Nat, k ≤ n ∧ k ≤ 8 ∧ v4 = .int .i64 k ∧ Hid (UrI w v3 (urlsT (L.take k)) wr)) (fun _ v4 _ => 8 - (intOf v4).toNat)
 case atStart => exact ⟨0, Nat.zero_le _, by omega, rfl, H0.out⟩
 case round =>
  obtain ⟨k, hk, hk8, rfl, HR⟩ := hrel
  by_cases hlt : k < n
  ·have hin : (k : Int) < (n : Int) := by omega
   by_cases h8 : k < 8
   ·have h8' : (k : Int) < 8 := by omega
    have hkL : k < L.length := by have := HN.out; omega
    obtain ⟨b1, o1, rfl, e1⟩ := HV.out k hkL
    obtain ⟨X, hX⟩ : ∃ x : ByteArray, x = ⟨L[k].toArray⟩ := ⟨_, rfl⟩
    rw [← hX] at e1
    have hXl : X.data.toList = L[k] := by rw [hX]
    have hXs : X.size ≤ 9223372036854775807 := by rw [Lib.size_eq, hXl]; have := HZ.out _ (List.getElem_mem hkL); unfold maxLen at this; omega
    have hbr : Below w.heap.size w wr := by obtain ⟨P, _, _, _, h4⟩ := HR.out; exact h4
    have f1 := (hbr.cell (World.block_lt_of_cell? w _ e1)).trans e1
    have HT := hid (urlsT_snoc L k hkL)
    rw [← hXl] at HT
    have HU := hid (url_k X wr hXs)
    have htr : TrOk (adrOf (urlV X.data.toList)) := tr_read _
    have HLe := hid (urlsT_le L k)
    have hokA : ∀ r : Except Int Adr, isOk r = true → okU r = [adrOf r] := fun r h => by cases r with
     | ok u => rfl
     | error e => cases h
    have hnoA : ∀ r : Except Int Adr, isOk r = false → okU r = [] := fun r h => by cases r with
     | ok u => cases h
     | error e => rfl
    have HOk := hid (hokA (urlV X.data.toList))
    have HNo := hid (hnoA (urlV X.data.toList))
    unfold UPost at HU
    generalize urlV X.data.toList = r at HU HT htr HOk HNo
    obtain ⟨ok, hok⟩ : ∃ q, isOk r = q := ⟨_, rfl⟩
    rw [hok] at HU HOk HNo
    obtain ⟨A, hA⟩ : ∃ A, adrOf r = A := ⟨_, rfl⟩
    rw [hA] at HU HOk htr
    have HTr := hid htr
    clear hokA hnoA hXl hX e1 hok hA hbr htr hkL hXs
    go_wp2_with fail
    refine HU.out.mono ?_
    rintro e w1 ⟨pv, rfl, hown, hb1⟩
    obtain ⟨da, dn, dc, rfl⟩ := own_sl hown
    obtain ⟨d0, d1, d2, d3, d4, d5, d6, d8, d9, d10, d11, hxd⟩ := adr_cells A da dn dc
    have hvd : adrVal A (.slice da dn dc) = .agg #[.string d0, .string d1, .string d2, .string d3, .bool d4, .int .i64 d5, .bool d6, .slice da dn dc, .string d8, .string d9, .bool d10, .bool d11] := by unfold adrVal; rw [hxd]
    rw [hvd]
    obtain ⟨W2, hW2⟩ : ∃ X, (w1.alloc (.cells #[.string d0, .string d1, .string d2, .string d3, .bool d4, .int .i64 d5, .bool d6, .slice da dn dc, .string d8, .string d9, .bool d10, .bool d11] 34)) = X := ⟨_, rfl⟩
    have hbW2 : Below w1.heap.size w1 W2 := by rw [← hW2]; exact (Below.refl _ w1).alloc (Nat.le_refl _) _
    have hsW2 : W2.heap.size = w1.heap.size + 1 := by rw [← hW2]; simp
    have hAW2 : AdrIn W2 w1.heap.size A (.slice da dn dc) := by
     unfold AdrIn
     rw [hxd, ← hW2]
     exact heap_alloc_new w1 _
    have hb12 := below2 hb1 hbW2
    have HR2 := hid (HR.out.below hb12)
    have HO2 := hid (show W2.ownsRow w.heap.size 9 1 (.slice da dn dc) A.path.length (cellsS A.path) from by
     have hw : w.heap.size ≤ wr.heap.size := by obtain ⟨P, _, _, _, h4⟩ := HR.out; exact h4.size
     exact ownsRow_lower (own_kept hown hbW2) hw)
    have HXd := hid hxd
    obtain ⟨y0, y1, y2, y3, y4, y5, y6, y7, y8, y9, y10, y11⟩ := adr_twelve hxd hAW2
    clear hown hb1 hbW2 hAW2 hvd hsW2 hb12 HR HU
    cases ok with
    | false =>
     have HE := hid (show urlsT (L.take (k + 1)) = urlsT (L.take k) by rw [HT.out, HNo.out (by first | rfl | trivial), List.append_nil])
     clear y0 y1 y2 y3 y4 y5 y6 y7 y8 y9 y10 y11 hxd
     go_wp2_with fail
     go_roundw
     case rel =>
      have e4 : UrI w u3 (urlsT (L.take (k + 1))) W2 := by rw [HE.out]; exact HR2.out
      first
       | exact ⟨k + 1, by omega, by omega, by go_num, e4⟩
       | ((repeat apply Exists.intro); refine ⟨?_, rfl⟩; exact ⟨k + 1, by omega, by omega, by go_num, e4⟩)
       | ((repeat apply Exists.intro); exact ⟨⟨k + 1, by omega, by omega, by go_num, e4⟩, rfl⟩)
     case measure => simp [intOf]; omega
    | true =>
     have HE := hid (show urlsT (L.take (k + 1)) = urlsT (L.take k) ++ [A] by rw [HT.out, HOk.out (by first | rfl | trivial)])
     obtain ⟨m, hm⟩ : ∃ m, (urlsT (L.take k)).length = m := ⟨_, rfl⟩
     have hm8 : m ≤ 8 := by rw [← hm]; have := HLe.out; omega
     obtain ⟨P, hP1, hP2, hP3, hP4⟩ := HR2.out
     rw [hm] at hP2
     have HP2 := hid hP2
     have HP3 := hid hP3
     have HP4 := hid hP4
     have HP1 := hid hP1
     have HM := hid hm
     have hwW : w.heap.size ≤ W2.heap.size := HP4.out.size
     have hone : ∀ u ∈ ([.string d0, .string d1, .string d2, .string d3, .bool d4, .int .i64 d5, .bool d6, .slice da dn dc, .string d8, .string d9, .bool d10, .bool d11] : List Value), u.oneCell' = true := fun u hu => adrCells_one A (.slice da dn dc) ⟨_, _, _, rfl⟩ u (by rw [HXd.out]; exact hu)
     have HOne := hid hone
     clear hP1 hP2 hP3 hP4 hm hone hxd
     go_wp2_with (at_builtin; refine wpList_append_own _ rfl _ _ 23 rfl w.heap.size 34 i0 _ 12 152 Tryz.underlying23 hi hz0 hz1 hz2 rfl (by decide) _ _ _ rfl (HP2.out.alloc _) ⟨W2.heap.size, 0, none⟩ 1 1 [.string d0, .string d1, .string d2, .string d3, .bool d4, .int .i64 d5, .bool d6, .slice da dn dc, .string d8, .string d9, .bool d10, .bool d11] rfl rfl ?c1 ?c2 (by unfold maxLen; omega) (by omega) (by simp; omega) ?_)
     case c1 =>
      intro q u hq
      rw [Addr.add_mid]
      exact range_row (heap_alloc_new W2 _) q u hq
     case c2 => exact HOne.out
     intro v5 w5 hown hgrow hnil
     have HR5 := hid (show UrI w v5 (urlsT (L.take (k + 1))) w5 by
      have hba := (Below.refl _ W2).alloc (Nat.le_refl _) (.cells #[.string d0, .string d1, .string d2, .string d3, .bool d4, .int .i64 d5, .bool d6, .slice da dn dc, .string d8, .string d9, .bool d10, .bool d11] 34)
      refine ⟨P ++ [(A, .slice da dn dc)], ?_, ?_, ?_, ?_⟩
      ·rw [HE.out, List.map_append, HP1.out]; rfl
      ·rw [HE.out, List.length_append, HM.out, cellsU_app, cellsU_one, HXd.out]
       exact hown
      ·have h1 := ((HP3.out.kept hba).grown (HP2.out.alloc _) hgrow)
       have h2 := (UlO.kept (P := [(A, .slice da dn dc)]) (fun p hp => by
        rw [List.mem_singleton.1 hp]
        exact ⟨HO2.out, HTr.out⟩) hba).grown (HP2.out.alloc _) hgrow
       intro p hp
       rcases List.mem_append.1 hp with hp | hp
       ·exact h1 p hp
       ·exact h2 p hp
      ·exact (HP4.out.alloc HP4.out.size _).grown hgrow (by have := HP4.out.size; simp; omega) (fun g hg => (HP2.out.lt g hg).1))
     clear hown hgrow hnil y0 y1 y2 y3 y4 y5 y6 y7 y8 y9 y10 y11 HR2 HP2 HP3 HP4 HO2
     go_wp2_with fail
     go_roundw
     case rel =>
      first
       | exact ⟨k + 1, by omega, by omega, by go_num, HR5.out⟩
       | ((repeat apply Exists.intro); refine ⟨?_, rfl⟩; exact ⟨k + 1, by omega, by omega, by go_num, HR5.out⟩)
       | ((repeat apply Exists.intro); exact ⟨⟨k + 1, by omega, by omega, by go_num, HR5.out⟩, rfl⟩)
     case measure => simp [intOf]; omega
   ·have h8' : decide ((k : Int) < 8) = false := by rw [decide_eq_false_iff_not]; omega
    have HF := hid (show UrPost (urlsV L) w (.returned u3) wr by
     have : k = 8 := by omega
     subst this
     exact HR.out.post)
    clear HR
    go_wp2_with fail
    go_ret
    exact HF.out
  ·have hin : decide ((k : Int) < (n : Int)) = false := by rw [decide_eq_false_iff_not]; omega
   have HF := hid (show UrPost (urlsV L) w (.returned u3) wr by
    have h1 := HR.out.post
    have h2 : k = L.length := by have := HN.out; omega
    rw [List.take_of_length_le (by omega)] at h1
    unfold urlsV
    rw [List.take_of_length_le (by omega)]
    exact h1)
   clear HR
   go_wp2_with fail
   go_ret
   exact HF.out

end Go.Proofs.YtgoefeaopegdoaaGreatDoor

namespace Go.Proofs.YtgoefeaopegdoaaGreatDoor
open Go.RowKit

theorem org_named (o : Org) : ∃ (s h : ByteArray) (p : Int) (q : Bool), orgVal o = .agg #[.string s, .string h, .int .i64 p, .bool q] ∧ orgCells o = [.string s, .string h, .int .i64 p, .bool q] := ⟨_, _, _, _, rfl, rfl⟩

theorem org_four {W : World} {b : Nat} {o : Org} {s h : ByteArray} {p : Int} {q : Bool} (hx : orgCells o = [.string s, .string h, .int .i64 p, .bool q]) (H : OrgIn W b o) :
  W.cell? ⟨b, 0, none⟩ = some (.string s) ∧ W.cell? ⟨b, 1, none⟩ = some (.string h) ∧ W.cell? ⟨b, 2, none⟩ = some (.int .i64 p) ∧ W.cell? ⟨b, 3, none⟩ = some (.bool q) :=
 ⟨H.cell 0 _ (by rw [hx]; rfl), H.cell 1 _ (by rw [hx]; rfl), H.cell 2 _ (by rw [hx]; rfl), H.cell 3 _ (by rw [hx]; rfl)⟩

theorem r15_two {o : Org} {u : Adr} (h : ssV o (orgV u) = false) : r15 o u = 2 := by unfold r15; rw [h]; rfl

theorem r15_one {o : Org} {u : Adr} (h : ssV o (orgV u) = true) (h2 : sameO o (orgV u) = false) : r15 o u = 1 := by unfold r15; rw [h, h2]; rfl

theorem r15_nil {o : Org} {u : Adr} (h : ssV o (orgV u) = true) (h2 : sameO o (orgV u) = true) : r15 o u = 0 := by unfold r15; rw [h, h2]; rfl

def WdI (c : Nat) (S : ByteArray) : Prop := c ≤ 1 ∧ S = wd15 c

set_option maxHeartbeats 8000000 in
set_option maxRecDepth 100000 in
theorem site15_any (o : Org) (v : Value) (P : List (Adr × Value)) (w : World) (hg : Gd w) (hv : UlAt w v P) (ho : SiteOk o) :
  Calls Tryz.prog 21 #[orgVal o, v] w fun e w' => e = .returned (.string (wd15 (rk15 o (P.map (·.1))))) ∧ Below w.heap.size w w' := by
 obtain ⟨a1, c1, rfl, hc1, hm1, hv1⟩ := hv.view
 obtain ⟨oS, oH, oP, oQ, hvo, hxo⟩ := org_named (o)
 rw [hvo]
 obtain ⟨W1, hW1⟩ : ∃ X, (w.alloc (.cells #[.string oS, .string oH, .int .i64 oP, .bool oQ] 28)) = X := ⟨_, rfl⟩
 have hbW1 : Below w.heap.size w W1 := by rw [← hW1]; exact (Below.refl _ w).alloc (Nat.le_refl _) _
 have hsW1 : W1.heap.size = w.heap.size + 1 := by rw [← hW1]; simp
 have hOW1 : OrgIn W1 w.heap.size (o) := by
  unfold OrgIn
  rw [hxo, ← hW1]
  exact heap_alloc_new w _
 have HV := hid hv1
 have HG := hid hg
 have HSo := hid ho
 have HO1 := hid hOW1
 have HB1 := hid hbW1
 have HXo := hid hxo
 have HVo := hid hvo
 obtain ⟨n, hn⟩ : ∃ n, n = P.length := ⟨_, rfl⟩
 have HN := hid hn
 have hnm : n ≤ 9223372036854775807 := by rw [hn]; unfold maxLen at hm1; omega
 rw [← hn] at hc1 ⊢
 obtain ⟨L, hL⟩ : ∃ L, L = P.map (·.1) := ⟨_, rfl⟩
 have HL := hid hL
 have HLn := hid (show L.length = n by rw [hL, List.length_map, hn])
 have HLa := hid (show ∀ k (h : k < P.length) (h2 : k < L.length), L[k] = P[k].1 from fun k h h2 => by simp [hL])
 obtain ⟨R, hR⟩ : ∃ R, rk15 o L = R := ⟨_, rfl⟩
 have HRr := hid hR
 have HFin := hid (show ∀ S, WdI (rk15 o (L.take n)) S → S = wd15 R from fun S h => by
  rw [h.2, List.take_of_length_le (by rw [HLn.out]; exact Nat.le_refl _), hR])
 rw [← hL, hR]
 clear hv hv1 hn hg ho hOW1 hbW1 hsW1 hm1 hxo hvo hL hR
 go_enter Tryz.func21, Tryz.ntmps21
 go_wp2_with fail
 go_loopw [5, 11] (fun v5 v11 wr => ∃ (k : Nat) (S : ByteArray), k ≤ n ∧ v11 = .int .i64 k ∧ v5 = .string S ∧ Hid (WdI (rk15 o (L.take k)) S ∧ Below W1.heap.size W1 wr)) (fun _ v11 _ => n - (intOf v11).toNat)
 case atStart => exact ⟨0, _, Nat.zero_le _, rfl, rfl, ⟨Nat.zero_le _, rfl⟩, Below.refl _ _⟩
 case round =>
  obtain ⟨k, S, hk, rfl, rfl, HR⟩ := hrel
  by_cases hlt : k < n
  ·have hin : (k : Int) < (n : Int) := by omega
   have hkP : k < P.length := by have := HN.out; omega
   have hkL : k < L.length := by have := HLn.out; omega
   obtain ⟨g1, o1, rfl, hrg, hpt, htr⟩ := HV.out k hkP
   have HLk := hid (HLa.out k hkP hkL)
   have HSn := hid (rk15_snoc o L k hkL)
   have HTw := hid (rk15_two o L k hkL)
   rw [HLk.out] at HSn HTw
   obtain ⟨A, hA⟩ : ∃ A, P[k].1 = A := ⟨_, rfl⟩
   obtain ⟨pv, hpv⟩ : ∃ A, P[k].2 = A := ⟨_, rfl⟩
   rw [hA] at hrg hpt htr HSn HTw
   rw [hpv] at hrg hpt
   have hbw := below2 HB1.out HR.out.2
   have hrg' := range_kept hrg hbw
   have hpt' := hpt.kept hbw
   obtain ⟨da, dn, dc, rfl⟩ := path_sl hpt
   obtain ⟨d0, d1, d2, d3, d4, d5, d6, d8, d9, d10, d11, hxd⟩ := adr_cells A da dn dc
   have hvd : adrVal A (.slice da dn dc) = .agg #[.string d0, .string d1, .string d2, .string d3, .bool d4, .int .i64 d5, .bool d6, .slice da dn dc, .string d8, .string d9, .bool d10, .bool d11] := by unfold adrVal; rw [hxd]
   rw [hxd] at hrg'
   have HRg := hid hrg'
   obtain ⟨W2, hW2⟩ : ∃ X, (wr.alloc (.cells #[.string d0, .string d1, .string d2, .string d3, .bool d4, .int .i64 d5, .bool d6, .slice da dn dc, .string d8, .string d9, .bool d10, .bool d11] 34)) = X := ⟨_, rfl⟩
   have hbW2 : Below wr.heap.size wr W2 := by rw [← hW2]; exact (Below.refl _ wr).alloc (Nat.le_refl _) _
   have hsW2 : W2.heap.size = wr.heap.size + 1 := by rw [← hW2]; simp
   have hAW2 : AdrIn W2 wr.heap.size A (.slice da dn dc) := by
    unfold AdrIn
    rw [hxd, ← hW2]
    exact heap_alloc_new wr _
   have HB2 := hid (below2 HR.out.2 hbW2)
   have HP2 := hid (hpt'.kept hbW2)
   have HA2 := hid hAW2
   have HXd := hid hxd
   have HVd := hid hvd
   have HTr := hid htr
   have HOf := hid (of_any A (.slice da dn dc) W2 (HG.out.kept (below2 HB1.out HB2.out)) HP2.out htr.1 htr.2.1)
   unfold OfPost at HOf
   rw [hvd] at HOf
   have HSi := hid (siteU15 htr)
   obtain ⟨OA, hOA⟩ : ∃ O, orgV A = O := ⟨_, rfl⟩
   rw [hOA] at HOf HSi
   obtain ⟨bS, bH, bP, bQ, hvb, hxb⟩ := org_named (OA)
   rw [hvb] at HOf
   have HXb := hid hxb
   have HVb := hid hvb
   have HR2 := hid (show ssV o OA = false → r15 o A = 2 from fun h => r15_two (by rw [hOA]; exact h))
   have HR1 := hid (show ssV o OA = true → sameO o OA = false → r15 o A = 1 from fun h h2 => r15_one (by rw [hOA]; exact h) (by rw [hOA]; exact h2))
   have HR0 := hid (show ssV o OA = true → sameO o OA = true → r15 o A = 0 from fun h h2 => r15_nil (by rw [hOA]; exact h) (by rw [hOA]; exact h2))
   obtain ⟨y0, y1, y2, y3, y4, y5, y6, y7, y8, y9, y10, y11⟩ := adr_twelve hxd hAW2
   clear hbW2 hAW2 hxd hvd hsW2 hrg hrg' hpt hpt' htr hA hpv hbw hOA hxb hvb hkP hkL HLk
   go_wp2_with (refine wpList_load_mid rfl 34 (.tmp 13) rfl g1 (o1 + k * 12) rfl [.string d0, .string d1, .string d2, .string d3, .bool d4, .int .i64 d5, .bool d6, .slice da dn dc, .string d8, .string d9, .bool d10, .bool d11] _ HRg.out Tryz.underlying34 rfl sizeU ?_)
   refine HOf.out.mono ?_
   rintro e w3 ⟨rfl, hb3⟩
   obtain ⟨W4, hW4⟩ : ∃ X, (w3.alloc (.cells #[.string bS, .string bH, .int .i64 bP, .bool bQ] 28)) = X := ⟨_, rfl⟩
   have hbW4 : Below w3.heap.size w3 W4 := by rw [← hW4]; exact (Below.refl _ w3).alloc (Nat.le_refl _) _
   have hsW4 : W4.heap.size = w3.heap.size + 1 := by rw [← hW4]; simp
   have hOW4 : OrgIn W4 w3.heap.size (OA) := by
    unfold OrgIn
    rw [HXb.out, ← hW4]
    exact heap_alloc_new w3 _
   have HB4 := hid (below2 HB2.out (below2 hb3 hbW4))
   have HO4 := hid hOW4
   have HSs := hid (ss_any o OA W4 (HG.out.kept (below2 HB1.out HB4.out)) HSo.out HSi.out)
   rw [HVo.out, HVb.out] at HSs
   obtain ⟨p0, p1, p2, p3⟩ := org_four HXo.out (HO1.out.kept HB4.out)
   obtain ⟨q0, q1, q2, q3⟩ := org_four HXb.out hOW4
   clear hb3 hbW4 hOW4 hsW4 y0 y1 y2 y3 y4 y5 y6 y7 y8 y9 y10 y11
   obtain ⟨ss, hss⟩ : ∃ q, ssV o OA = q := ⟨_, rfl⟩
   rw [hss] at HSs HR2 HR1 HR0
   clear hss
   go_wp2_with fail
   refine HSs.out.mono ?_
   rintro e w5 ⟨rfl, hb5⟩
   have HB5 := hid (below2 HB4.out hb5)
   have HO5 := hid (HO4.out.kept hb5)
   clear hb5 p0 p1 p2 p3 q0 q1 q2 q3
   cases ss with
   | false =>
    have HF := hid (show R = 2 by rw [← HRr.out]; exact HTw.out (HR2.out (by first | rfl | trivial)))
    go_wp2_with fail
    go_ret
    exact ⟨ret_str' (by rw [HF.out]; rfl), below2 HB1.out HB5.out⟩
   | true =>
    have HSm := hid (same4_any o OA w5)
    rw [HVo.out, HVb.out] at HSm
    obtain ⟨p0, p1, p2, p3⟩ := org_four HXo.out (HO1.out.kept HB5.out)
    obtain ⟨q0, q1, q2, q3⟩ := org_four HXb.out HO5.out
    obtain ⟨sm, hsm⟩ : ∃ q, sameO o OA = q := ⟨_, rfl⟩
    rw [hsm] at HSm HR1 HR0
    clear hsm
    go_wp2_with fail
    refine HSm.out.mono ?_
    rintro e w6 ⟨rfl, hb6⟩
    have HB6 := hid (below2 HB5.out hb6)
    clear hb6 p0 p1 p2 p3 q0 q1 q2 q3
    cases sm with
    | false =>
     have HW := hid (show WdI (rk15 o (L.take (k + 1))) (wd15 1) by
      have h1 := HR1.out (by first | rfl | trivial) (by first | rfl | trivial)
      have h2 := HR.out.1.1
      have : rk15 o (L.take (k + 1)) = 1 := by rw [HSn.out, h1]; omega
      rw [this]
      exact ⟨Nat.le_refl _, rfl⟩)
     go_wp2_with fail
     go_roundw
     case rel =>
      first
       | exact ⟨k + 1, _, by omega, by go_num, rfl, HW.out, HB6.out⟩
       | ((repeat apply Exists.intro); refine ⟨?_, rfl⟩; exact ⟨k + 1, _, by omega, by go_num, rfl, HW.out, HB6.out⟩)
       | ((repeat apply Exists.intro); exact ⟨⟨k + 1, _, by omega, by go_num, rfl, HW.out, HB6.out⟩, rfl⟩)
     case measure => simp [intOf]; omega
    | true =>
     have HW := hid (show WdI (rk15 o (L.take (k + 1))) S by
      have h1 := HR0.out (by first | rfl | trivial) (by first | rfl | trivial)
      have : rk15 o (L.take (k + 1)) = rk15 o (L.take k) := by rw [HSn.out, h1]; omega
      rw [this]
      exact HR.out.1)
     go_wp2_with fail
     go_roundw
     case rel =>
      first
       | exact ⟨k + 1, _, by omega, by go_num, rfl, HW.out, HB6.out⟩
       | ((repeat apply Exists.intro); refine ⟨?_, rfl⟩; exact ⟨k + 1, _, by omega, by go_num, rfl, HW.out, HB6.out⟩)
       | ((repeat apply Exists.intro); exact ⟨⟨k + 1, _, by omega, by go_num, rfl, HW.out, HB6.out⟩, rfl⟩)
     case measure => simp [intOf]; omega
  ·obtain rfl : k = n := by omega
   have HF := hid (HFin.out S HR.out.1)
   have HB := hid (below2 HB1.out HR.out.2)
   clear HR hk hlt
   go_wp2_with fail
   go_ret
   exact ⟨ret_str' HF.out, HB.out⟩

end Go.Proofs.YtgoefeaopegdoaaGreatDoor

namespace Go.Proofs.YtgoefeaopegdoaaGreatDoor
open Go.RowKit

def tCorp : List UInt8 := [67, 114, 111, 115, 115, 45, 79, 114, 105, 103, 105, 110, 45, 82, 101, 115, 111, 117, 114, 99, 101, 45, 80, 111, 108, 105, 99, 121]

set_option maxHeartbeats 1000000 in
theorem corp15_any (s : ByteArray) (w : World) :
  Calls Tryz.prog 20 #[.string s] w fun e w' => ∃ v, e = .returned v ∧ (∃ g, v = .slice (some ⟨g, 0, none⟩) 1 1) ∧ HdAt w' v [⟨tCorp, s.data.toList⟩] ∧ Below w.heap.size w w' := by
 have hb : Below w.heap.size w (w.alloc (.cells #[.string ⟨tCorp.toArray⟩, .string s] 38)) := (Below.refl _ w).alloc (Nat.le_refl _) _
 have hr : (w.alloc (.cells #[.string ⟨tCorp.toArray⟩, .string s] 38)).heap[w.heap.size]? = some (.cells #[.string ⟨tCorp.toArray⟩, .string s] 38 (0, 0)) := heap_alloc_new w _
 have HF := hid (show HdAt (w.alloc (.cells #[.string ⟨tCorp.toArray⟩, .string s] 38)) (.slice (some ⟨w.heap.size, 0, none⟩) 1 1) [⟨tCorp, s.data.toList⟩] from
  hd_of (L := [⟨tCorp, s.data.toList⟩]) (Nat.le_refl _) (by decide) (fun j hj => by
   obtain rfl : j = 0 := by simp at hj; omega
   refine ⟨?_, ?_⟩
   ·rw [Lib.cell_of_heap hr]; rfl
   ·rw [Lib.cell_of_heap hr]; rfl))
 have HB := hid hb
 clear hb hr
 go_enter Tryz.func20, Tryz.ntmps20
 go_wp2
 go_ret
 exact ⟨_, rfl, ⟨_, rfl⟩, HF.out, HB.out⟩

end Go.Proofs.YtgoefeaopegdoaaGreatDoor
