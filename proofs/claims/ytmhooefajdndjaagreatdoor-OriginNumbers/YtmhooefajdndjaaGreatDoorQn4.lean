/-
  Walks and plain facts that this claim leans on, put together out of 4 texts: Ewy, Ewz, Ewm, Dz.
-/
import Derived.Test.YtmhooefajdndjaaGreatDoorProg
import Derived.Test.YtmhooefajdndjaaGreatDoorTie
import Derived.Test.YtmhooefajdndjaaGreatDoorQa1
import Derived.Test.YtmhooefajdndjaaGreatDoorQa2
import Derived.Test.YtmhooefajdndjaaGreatDoorQa3
import Derived.Test.YtmhooefajdndjaaGreatDoorQa4
import Derived.Test.YtmhooefajdndjaaGreatDoorQa5
import Derived.Test.YtmhooefajdndjaaGreatDoorQa6
import Derived.Test.YtmhooefajdndjaaGreatDoorQa7
import Derived.Test.YtmhooefajdndjaaGreatDoorQa8
import Derived.Test.YtmhooefajdndjaaGreatDoorQa9
import Derived.Test.YtmhooefajdndjaaGreatDoorQa10
import Derived.Test.YtmhooefajdndjaaGreatDoorQa11
import Derived.Test.YtmhooefajdndjaaGreatDoorQa12
import Derived.Test.YtmhooefajdndjaaGreatDoorQa13
import Derived.Test.YtmhooefajdndjaaGreatDoorQa14
import Derived.Test.YtmhooefajdndjaaGreatDoorQa15
import Derived.Test.YtmhooefajdndjaaGreatDoorQa16
import Derived.Test.YtmhooefajdndjaaGreatDoorQa17
import Derived.Test.YtmhooefajdndjaaGreatDoorQa18
import Derived.Test.YtmhooefajdndjaaGreatDoorQa19
import Derived.Test.YtmhooefajdndjaaGreatDoorQa20
import Derived.Test.YtmhooefajdndjaaGreatDoorQa21
import Derived.Test.YtmhooefajdndjaaGreatDoorQa22
import Derived.Test.YtmhooefajdndjaaGreatDoorQa23
import Derived.Test.YtmhooefajdndjaaGreatDoorQa24
import Derived.Test.YtmhooefajdndjaaGreatDoorQa25
import Derived.Test.YtmhooefajdndjaaGreatDoorQa26
import Derived.Test.YtmhooefajdndjaaGreatDoorQa27
import Derived.Test.YtmhooefajdndjaaGreatDoorQa28
import Derived.Test.YtmhooefajdndjaaGreatDoorQn1
import Derived.Test.YtmhooefajdndjaaGreatDoorQn2
import Derived.Test.YtmhooefajdndjaaGreatDoorQn3
import Derived.Lib.IndexMore
import Derived.Lib.Join
import Derived.Lib.LastIndexByte
import Derived.WalkKit
import Derived.Lib.Strings
import Derived.Lib.UnsafeStr
import Derived.Laws.IdiomStrings
import Derived.Laws.AppendOwn
import Derived.Laws.BitsAllLaws
import Derived.Lib.Bytealg
import Derived.Lib.BufferMore
import Derived.Lib.BufferRead
import Derived.Lib.RuneBytes
import Derived.Laws.RangeAny
import Derived.LoopN
import Derived.RegionTactic
import Derived.Deep.RegionWith
import Derived.Deep.QuietTactic
import Derived.BigQuiet
import Derived.Laws.OwnMore
import Derived.Shelf.Strings.Builder1
import Derived.Shelf.Strings.Builder2
import Derived.Shelf.Strings.OnBuilder
import Derived.Shelf.Strings.Trim
import Derived.Shelf.Small.Utf8
import Derived.Shelf.Small.Strs
import Derived.Shelf.Small.Wraps
import Derived.Shelf.Strings.BuilderF
import Derived.Shelf.Strings.BuilderK
import Derived.Shelf.Strings.BuilderRune
import Derived.Shelf.Utf8.AppendRune
import Derived.Shelf.Utf8.AppendRunePlain
import Derived.Shelf.Strings.Builder2Cap
import Derived.Shelf.Strconv.Itoa0
import Derived.Shelf.Strconv.Itoa1
import Derived.Shelf.LaysM
import Derived.Shelf.Strconv.Itoa2
import Derived.Shelf.Strconv.Itoa3
import Derived.Shelf.Strings.Search1
import Derived.Shelf.Strings.Search2
import Derived.Shelf.Strings.Search3
import Derived.Shelf.Strings.Cut
import Derived.Shelf.Strings.Count
import Derived.Shelf.Strings.Shaped
import Derived.Shelf.Strings.LastIndex
import Derived.Shelf.Strings.Prefix
import Derived.Shelf.Strings.Split
import Derived.Shelf.Strings.Replace
import Derived.Shelf.Strings.Runes
import Derived.Shelf.Strings.IndexAny
import Derived.Shelf.Strings.AsciiSet
import Derived.Shelf.Strings.IndexAnyAll
import Derived.Shelf.Unicode.DecodeSlow
import Derived.Ground.Names2Prog
import Derived.Shelf.Slices.Clone
import Derived.Ground.SlgnProg
import Derived.Shelf.SlicesE.Clone
import Derived.Scope
import Derived.ScopeJumps
import Derived.WalkMore
import Derived.Lib.IndexAny
import Derived.Lib.Replace
import Derived.Lib.TrimByte
import Derived.Lib.ItoaNum
import Derived.Lib.DecodeN
import Derived.Lib.OthersKept
import Derived.Deep.LoopGhost
import Derived.Laws.BytesString
import Derived.Deep.WholeRow
import Derived.BigRegion
import Derived.WalkSpells
import Derived.WalkLawsBesides
import Derived.Lib.AppendIntMem
import Derived.Lib.SmallJoins
import Derived.WalkSmall
import Derived.OwnWalk
import Derived.Laws.CopyOwn
import Derived.Laws.ResultCell
import Derived.Deep.MidRow
import Derived.Lib.FrozenHead2
import Derived.Lib.Builder
import Derived.Deep.RegionLaw
import Derived.Lib.SlTrimSet
import Derived.Below
import Derived.Shelf.Strings.SlTrimAscii
import Derived.Laws.Runes
import Derived.Deep.Cut
import Derived.Deep.RegionHeld
import Derived.Laws.AppendOwnNone
import Derived.Lib.AppendStr
import Derived.Stop.LaidErr
import Derived.LaidMore
set_option linter.unusedSimpArgs false
set_option linter.unusedVariables false

namespace Go.Proofs.YtmhooefajdndjaaGreatDoor
open Go.RowKit

def plI (c : Int) : Bool := decide (c = 42) || (decide (c = 45) || (decide (c = 46) || (decide (c = 95) || (letterI c || digitI c))))

def wrtC (c : UInt8) : List UInt8 := if plI (c.toNat : Int) then [c] else if c.toNat = 32 then [43] else esc c

def wrtV (l : List UInt8) : List UInt8 := l.flatMap wrtC

def wrP (h : Hd) : List UInt8 := wrtV h.name ++ 61 :: wrtV h.value

def wrA (first : Bool) : List Hd → List UInt8
 | [] => []
 | h :: t => (if first then [] else [38]) ++ (wrP h ++ wrA false t)

def wrV (L : List Hd) : List UInt8 := wrA true L

def bigH (h : Hd) : Nat := 3 * h.name.length + 3 * h.value.length + 2

def bigQ (L : List Hd) : Nat := (L.map bigH).sum

theorem wrtC_le (c : UInt8) : (wrtC c).length ≤ 3 := by
 unfold wrtC
 split
 ·simp
 ·split
  ·simp
  ·simp [esc]

theorem wrtV_le (l : List UInt8) : (wrtV l).length ≤ 3 * l.length := by
 unfold wrtV
 induction l with
 | nil => simp
 | cons c l ih =>
  have := wrtC_le c
  rw [List.flatMap_cons, List.length_append, List.length_cons]
  omega

theorem wrtV_snoc (l : List UInt8) (c : UInt8) : wrtV (l ++ [c]) = wrtV l ++ wrtC c := by simp [wrtV]

theorem wrA_le (f : Bool) (L : List Hd) : (wrA f L).length ≤ bigQ L := by
 induction L generalizing f with
 | nil => simp [wrA, bigQ]
 | cons h t ih =>
  have h1 := wrtV_le h.name
  have h2 := wrtV_le h.value
  have h3 := ih false
  have h4 : (if f = true then ([] : List UInt8) else [38]).length ≤ 1 := by split <;> simp
  unfold bigQ at h3 ⊢
  rw [wrA, wrP, List.length_append, List.length_append, List.length_append, List.length_cons, List.map_cons, List.sum_cons]
  show _ ≤ 3 * h.name.length + 3 * h.value.length + 2 + _
  omega

theorem wrA_snoc (f : Bool) (L : List Hd) (h : Hd) : wrA f (L ++ [h]) = wrA f L ++ ((if L.isEmpty && f then [] else [38]) ++ wrP h) := by
 induction L generalizing f with
 | nil => cases f <;> simp [wrA]
 | cons x t ih =>
  rw [List.cons_append, wrA, ih false, wrA]
  simp

theorem bigQ_app (a b : List Hd) : bigQ (a ++ b) = bigQ a + bigQ b := by simp [bigQ]

theorem big_take (L : List Hd) (k : Nat) (hk : k < L.length) : bigQ (L.take k) + bigH L[k] ≤ bigQ L := by
 have e : L.take (k + 1) = L.take k ++ [L[k]] := by rw [List.take_succ_eq_append_getElem hk]
 have h1 : bigQ (L.take (k + 1)) = bigQ (L.take k) + bigQ [L[k]] := by rw [e, bigQ_app]
 have h2 := bigQ_app (L.take (k + 1)) (L.drop (k + 1))
 rw [List.take_append_drop] at h2
 have h3 : bigQ [L[k]] = bigH L[k] := by simp [bigQ]
 omega

set_option maxHeartbeats 4000000 in
set_option maxRecDepth 100000 in
theorem plain4_any (c : Int) (w : World) :
  Calls Tryz.prog 74 #[.int .u8 c] w fun e w' => e = .returned (.bool (plI c)) ∧ w = w' := by
 by_cases h42 : c = 42
 ·subst h42
  go_enter Tryz.func74, Tryz.ntmps74
  go_wp2
  go_ret
  exact ⟨rfl, rfl⟩
 by_cases h45 : c = 45
 ·subst h45
  go_enter Tryz.func74, Tryz.ntmps74
  go_wp2
  go_ret
  exact ⟨rfl, rfl⟩
 by_cases h46 : c = 46
 ·subst h46
  go_enter Tryz.func74, Tryz.ntmps74
  go_wp2
  go_ret
  exact ⟨rfl, rfl⟩
 by_cases h95 : c = 95
 ·subst h95
  go_enter Tryz.func74, Tryz.ntmps74
  go_wp2
  go_ret
  exact ⟨rfl, rfl⟩
 have HV := hid (show plI c = (letterI c || digitI c) by unfold plI; rw [decide_eq_false h42, decide_eq_false h45, decide_eq_false h46, decide_eq_false h95]; rfl)
 rcases (show (c ≤ 47) ∨ (48 ≤ c ∧ c ≤ 57) ∨ (58 ≤ c ∧ c ≤ 64) ∨ (65 ≤ c ∧ c ≤ 90) ∨ (91 ≤ c ∧ c ≤ 96) ∨ (97 ≤ c ∧ c ≤ 122) ∨ (123 ≤ c) by omega) with hr | hr | hr | hr | hr | hr | hr
 ·have HA := hid (show plI c = false by rw [HV.out]; unfold letterI digitI; simp; omega)
  have t0 : decide (65 ≤ c) = false := by rw [decide_eq_false_iff_not]; omega
  have u0 : ¬ 65 ≤ c := by omega
  have t1 : decide (c ≤ 90) = true := by rw [decide_eq_true_eq]; omega
  have u1 : c ≤ 90 := by omega
  have t2 : decide (97 ≤ c) = false := by rw [decide_eq_false_iff_not]; omega
  have u2 : ¬ 97 ≤ c := by omega
  have t3 : decide (c ≤ 122) = true := by rw [decide_eq_true_eq]; omega
  have u3 : c ≤ 122 := by omega
  have t4 : decide (48 ≤ c) = false := by rw [decide_eq_false_iff_not]; omega
  have u4 : ¬ 48 ≤ c := by omega
  have t5 : decide (c ≤ 57) = true := by rw [decide_eq_true_eq]; omega
  have u5 : c ≤ 57 := by omega
  clear hr HV
  go_enter Tryz.func74, Tryz.ntmps74
  go_wp2
  go_ret
  exact ⟨ret_bool HA.out.symm, rfl⟩
 ·have HA := hid (show plI c = true by rw [HV.out]; unfold letterI digitI; simp; omega)
  have t0 : decide (65 ≤ c) = false := by rw [decide_eq_false_iff_not]; omega
  have u0 : ¬ 65 ≤ c := by omega
  have t1 : decide (c ≤ 90) = true := by rw [decide_eq_true_eq]; omega
  have u1 : c ≤ 90 := by omega
  have t2 : decide (97 ≤ c) = false := by rw [decide_eq_false_iff_not]; omega
  have u2 : ¬ 97 ≤ c := by omega
  have t3 : decide (c ≤ 122) = true := by rw [decide_eq_true_eq]; omega
  have u3 : c ≤ 122 := by omega
  have t4 : decide (48 ≤ c) = true := by rw [decide_eq_true_eq]; omega
  have u4 : 48 ≤ c := by omega
  have t5 : decide (c ≤ 57) = true := by rw [decide_eq_true_eq]; omega
  have u5 : c ≤ 57 := by omega
  clear hr HV
  go_enter Tryz.func74, Tryz.ntmps74
  go_wp2
  go_ret
  exact ⟨ret_bool HA.out.symm, rfl⟩
 ·have HA := hid (show plI c = false by rw [HV.out]; unfold letterI digitI; simp; omega)
  have t0 : decide (65 ≤ c) = false := by rw [decide_eq_false_iff_not]; omega
  have u0 : ¬ 65 ≤ c := by omega
  have t1 : decide (c ≤ 90) = true := by rw [decide_eq_true_eq]; omega
  have u1 : c ≤ 90 := by omega
  have t2 : decide (97 ≤ c) = false := by rw [decide_eq_false_iff_not]; omega
  have u2 : ¬ 97 ≤ c := by omega
  have t3 : decide (c ≤ 122) = true := by rw [decide_eq_true_eq]; omega
  have u3 : c ≤ 122 := by omega
  have t4 : decide (48 ≤ c) = true := by rw [decide_eq_true_eq]; omega
  have u4 : 48 ≤ c := by omega
  have t5 : decide (c ≤ 57) = false := by rw [decide_eq_false_iff_not]; omega
  have u5 : ¬ c ≤ 57 := by omega
  clear hr HV
  go_enter Tryz.func74, Tryz.ntmps74
  go_wp2
  go_ret
  exact ⟨ret_bool HA.out.symm, rfl⟩
 ·have HA := hid (show plI c = true by rw [HV.out]; unfold letterI digitI; simp; omega)
  have t0 : decide (65 ≤ c) = true := by rw [decide_eq_true_eq]; omega
  have u0 : 65 ≤ c := by omega
  have t1 : decide (c ≤ 90) = true := by rw [decide_eq_true_eq]; omega
  have u1 : c ≤ 90 := by omega
  have t2 : decide (97 ≤ c) = false := by rw [decide_eq_false_iff_not]; omega
  have u2 : ¬ 97 ≤ c := by omega
  have t3 : decide (c ≤ 122) = true := by rw [decide_eq_true_eq]; omega
  have u3 : c ≤ 122 := by omega
  have t4 : decide (48 ≤ c) = true := by rw [decide_eq_true_eq]; omega
  have u4 : 48 ≤ c := by omega
  have t5 : decide (c ≤ 57) = false := by rw [decide_eq_false_iff_not]; omega
  have u5 : ¬ c ≤ 57 := by omega
  clear hr HV
  go_enter Tryz.func74, Tryz.ntmps74
  go_wp2
  go_ret
  exact ⟨ret_bool HA.out.symm, rfl⟩
 ·have HA := hid (show plI c = false by rw [HV.out]; unfold letterI digitI; simp; omega)
  have t0 : decide (65 ≤ c) = true := by rw [decide_eq_true_eq]; omega
  have u0 : 65 ≤ c := by omega
  have t1 : decide (c ≤ 90) = false := by rw [decide_eq_false_iff_not]; omega
  have u1 : ¬ c ≤ 90 := by omega
  have t2 : decide (97 ≤ c) = false := by rw [decide_eq_false_iff_not]; omega
  have u2 : ¬ 97 ≤ c := by omega
  have t3 : decide (c ≤ 122) = true := by rw [decide_eq_true_eq]; omega
  have u3 : c ≤ 122 := by omega
  have t4 : decide (48 ≤ c) = true := by rw [decide_eq_true_eq]; omega
  have u4 : 48 ≤ c := by omega
  have t5 : decide (c ≤ 57) = false := by rw [decide_eq_false_iff_not]; omega
  have u5 : ¬ c ≤ 57 := by omega
  clear hr HV
  go_enter Tryz.func74, Tryz.ntmps74
  go_wp2
  go_ret
  exact ⟨ret_bool HA.out.symm, rfl⟩
 ·have HA := hid (show plI c = true by rw [HV.out]; unfold letterI digitI; simp; omega)
  have t0 : decide (65 ≤ c) = true := by rw [decide_eq_true_eq]; omega
  have u0 : 65 ≤ c := by omega
  have t1 : decide (c ≤ 90) = false := by rw [decide_eq_false_iff_not]; omega
  have u1 : ¬ c ≤ 90 := by omega
  have t2 : decide (97 ≤ c) = true := by rw [decide_eq_true_eq]; omega
  have u2 : 97 ≤ c := by omega
  have t3 : decide (c ≤ 122) = true := by rw [decide_eq_true_eq]; omega
  have u3 : c ≤ 122 := by omega
  have t4 : decide (48 ≤ c) = true := by rw [decide_eq_true_eq]; omega
  have u4 : 48 ≤ c := by omega
  have t5 : decide (c ≤ 57) = false := by rw [decide_eq_false_iff_not]; omega
  have u5 : ¬ c ≤ 57 := by omega
  clear hr HV
  go_enter Tryz.func74, Tryz.ntmps74
  go_wp2
  go_ret
  exact ⟨ret_bool HA.out.symm, rfl⟩
 ·have HA := hid (show plI c = false by rw [HV.out]; unfold letterI digitI; simp; omega)
  have t0 : decide (65 ≤ c) = true := by rw [decide_eq_true_eq]; omega
  have u0 : 65 ≤ c := by omega
  have t1 : decide (c ≤ 90) = false := by rw [decide_eq_false_iff_not]; omega
  have u1 : ¬ c ≤ 90 := by omega
  have t2 : decide (97 ≤ c) = true := by rw [decide_eq_true_eq]; omega
  have u2 : 97 ≤ c := by omega
  have t3 : decide (c ≤ 122) = false := by rw [decide_eq_false_iff_not]; omega
  have u3 : ¬ c ≤ 122 := by omega
  have t4 : decide (48 ≤ c) = true := by rw [decide_eq_true_eq]; omega
  have u4 : 48 ≤ c := by omega
  have t5 : decide (c ≤ 57) = false := by rw [decide_eq_false_iff_not]; omega
  have u5 : ¬ c ≤ 57 := by omega
  clear hr HV
  go_enter Tryz.func74, Tryz.ntmps74
  go_wp2
  go_ret
  exact ⟨ret_bool HA.out.symm, rfl⟩

theorem bat_below4 {T e : TypeId} {B b : Nat} {p : Value} {bs : List Value} {W W' : World} (h : Lib.BuilderAt T e B b p bs W) (hb : Below W.heap.size W W') : Lib.BuilderAt T e B b p bs W' := by
 have hlt := h.lt
 obtain ⟨hB, v, hv, hown, hne⟩ := h
 exact ⟨hB, v, (hb.block b hlt).trans hv, ownsRow_same hown fun g hg => hb.block g (hown.lt g hg).2, hne⟩

theorem bld_below4 {T e : TypeId} {B b : Nat} {bs : List Value} {W W' : World} (h : Lib.IsBuilder T e B b bs W) (hb : Below W.heap.size W W') : Lib.IsBuilder T e B b bs W' :=
 h.elim (fun x => .inl (bat_below4 x hb)) (fun x => .inr (bat_below4 x hb))

theorem bld_lt4 {T e : TypeId} {B b : Nat} {bs : List Value} {W : World} (h : Lib.IsBuilder T e B b bs W) : B ≤ b ∧ b < W.heap.size := h.elim (fun x => ⟨x.1, x.lt⟩) (fun x => ⟨x.1, x.lt⟩)

def BytM (w : World) (g : Nat) (s : ByteArray) : Prop := ∃ cap M, s.size ≤ cap ∧ w.heap[g]? = some (.cells (bytesRow s cap) 5 (M, M + 1))

theorem BytM.kept {w w' : World} {g b : Nat} {s : ByteArray} (h : BytM w g s) (hm : MarksKept b w w') (hb : g ≠ b) : BytM w' g s := by
 obtain ⟨cap, M, h1, h2⟩ := h
 refine ⟨cap, M, h1, hm g _ h2 hb fun c e => ?_⟩
 simp at e

theorem BytM.cell {w : World} {g : Nat} {s : ByteArray} (h : BytM w g s) (k : Nat) (hk : k < s.size) : w.cell? ⟨g, k, none⟩ = some (.int .u8 (s[k].toNat : Int)) := by
 obtain ⟨cap, M, h1, h2⟩ := h
 rw [Lib.cell_of_heap h2, bytesRow_at s cap k hk]
 rfl

def WrI (B b g : Nat) (l : List UInt8) (s : ByteArray) (w W1 wr : World) (k : Nat) : Prop :=
 Lib.IsBuilder 67 5 B b (Lib.byteCells (l ++ wrtV (s.data.toList.take k))) wr ∧ Below B w wr ∧ MarksKept b W1 wr ∧ BytM wr g s

set_option maxHeartbeats 4000000 in
set_option maxRecDepth 100000 in
theorem write4_any (B b : Nat) (l : List UInt8) (s : ByteArray) (w : World) (h : Lib.IsBuilder 67 5 B b (Lib.byteCells l) w) (hlen : l.length + 3 * s.size ≤ 1000000000) :
  Calls Tryz.prog 45 #[.pointer (some ⟨b, 0, none⟩), .string s] w fun e w' => e = .returned (.tuple #[]) ∧ (Lib.IsBuilder 67 5 B b (Lib.byteCells (l ++ wrtV s.data.toList)) w' ∧ Below B w w' ∧ MarksKept b w w') := by
 obtain ⟨hBb, hbl⟩ := bld_lt4 h
 have hcv := run_bytes_of_string (P := Tryz.prog) w 9 65 5 s Tryz.underlying9 Tryz.underlying65 Tryz.underlying5
 have hcap := grownCap_ge w s.size 0 5
 have hm0 : BytM (w.drew.alloc (.cells (bytesRow s (grownCap w s.size 0 5)) 5 ((bytesRow s (grownCap w s.size 0 5)).size, (bytesRow s (grownCap w s.size 0 5)).size + 1))) w.heap.size s := ⟨_, _, hcap, heap_alloc_new w.drew _⟩
 have hb0 : Below w.heap.size w (w.drew.alloc (.cells (bytesRow s (grownCap w s.size 0 5)) 5 ((bytesRow s (grownCap w s.size 0 5)).size, (bytesRow s (grownCap w s.size 0 5)).size + 1))) := (Below.refl _ w).drew.alloc (Nat.le_refl _) _
 generalize (w.drew.alloc (.cells (bytesRow s (grownCap w s.size 0 5)) 5 ((bytesRow s (grownCap w s.size 0 5)).size, (bytesRow s (grownCap w s.size 0 5)).size + 1))) = W1 at hcv hm0 hb0
 generalize grownCap w s.size 0 5 = cap at hcv hcap
 have hbB : Below B w W1 := hb0.mono (by omega)
 have H0 := hid (show WrI B b w.heap.size l s w W1 W1 0 from ⟨by rw [List.take_zero]; simpa [wrtV] using bld_below4 h hb0, hbB, MarksKept.refl _ _, hm0⟩)
 have HK0 := hid (show MarksKept b w W1 from fun k o hk _ _ => by
  have hkl : k < w.heap.size := by
   rcases Nat.lt_or_ge k w.heap.size with h' | h'
   ·exact h'
   ·simp [Array.getElem?_eq_none h'] at hk
  rw [hb0.block k hkl]; exact hk)
 clear h hm0 hb0 hbB
 go_enter Tryz.func45, Tryz.ntmps45
 go_wp2
 clear hcv
 go_loopw [9] (fun i wr => ∃ k : Nat, k ≤ s.size ∧ i = .int .i64 k ∧ WrI B b w.heap.size l s w W1 wr k) (fun i _ => s.size - (intOf i).toNat)
 case atStart => exact ⟨0, Nat.zero_le _, rfl, H0.out⟩
 case round =>
  obtain ⟨k, hk, rfl, hI, hbw, hmk, hby⟩ := hrel
  have hle := wrtV_le (s.data.toList.take k)
  have htl : (s.data.toList.take k).length ≤ k := List.length_take_le _ _
  have hBw : B ≤ wr.heap.size := by have := hbw.size; omega
  by_cases hlt : k < s.size
  ·have HT := hid (take_snoc s k hlt)
   have HP := hid (wrtV_snoc (s.data.toList.take k) s[k])
   have hc := hby.cell k hlt
   have hc8 : s[k].toNat < 256 := s[k].toNat_lt
   obtain ⟨acc, hacc⟩ : ∃ acc, l ++ wrtV (s.data.toList.take k) = acc := ⟨_, rfl⟩
   have hal : acc.length ≤ 1000000000 - 3 := by rw [← hacc, List.length_append]; omega
   rw [hacc] at hI
   have HPl := hid (fun w => plain4_any (s[k].toNat : Int) w)
   have HW := hid (show wrtC s[k] = if plI (s[k].toNat : Int) then [s[k]] else if s[k].toNat = 32 then [43] else esc s[k] from rfl)
   obtain ⟨q, hq⟩ : ∃ q, plI (s[k].toNat : Int) = q := ⟨_, rfl⟩
   rw [hq] at HPl HW
   have HAc := hid hacc
   have HMk := hid hmk
   have HBy := hid hby
   clear hq hacc hmk hby hle htl
   cases q with
   | true =>
    go_wp2_with (go_at_call 74; refine (HPl.out _).mono ?_; rintro e w' ⟨rfl, rfl⟩)
    refine (writeByte_n B b _ _ _ hI (by rw [Lib.byteCells_length]; omega) hBw).mono ?_
    rintro e w1 ⟨rfl, h1, b1, k1⟩
    go_wp2
    go_roundw
    case rel =>
     refine ⟨k + 1, by omega, by go_num, ?_, hbw.trans b1, HMk.out.trans k1, HBy.out.kept k1 (by omega)⟩
     rw [HT.out, HP.out, HW.out, ← List.append_assoc, HAc.out, Lib.byteCells_append]
     exact .inr h1
    case measure => simp [intOf]; omega
   | false =>
    by_cases h32 : s[k].toNat = 32
    ·have h32' : ((s[k].toNat : Int) == 32) = true := by rw [h32]; rfl
     have HW2 := hid (show wrtC s[k] = [43] by rw [HW.out, if_neg (by decide), if_pos h32])
     clear h32
     go_wp2_with (go_at_call 74; refine (HPl.out _).mono ?_; rintro e w' ⟨rfl, rfl⟩)
     refine (writeByte_n B b _ _ _ hI (by rw [Lib.byteCells_length]; omega) hBw).mono ?_
     rintro e w1 ⟨rfl, h1, b1, k1⟩
     go_wp2
     go_roundw
     case rel =>
      refine ⟨k + 1, by omega, by go_num, ?_, hbw.trans b1, HMk.out.trans k1, HBy.out.kept k1 (by omega)⟩
      rw [HT.out, HP.out, HW2.out, ← List.append_assoc, HAc.out, Lib.byteCells_append]
      exact .inr h1
     case measure => simp [intOf]; omega
    ·have h32' : ((s[k].toNat : Int) == 32) = false := by rw [beq_eq_false_iff_ne]; omega
     have HW2 := hid (show wrtC s[k] = esc s[k] by rw [HW.out, if_neg (by decide), if_neg h32])
     have ha := and15 s[k].toNat hc8
     clear h32
     go_wp2_with (go_at_call 74; refine (HPl.out _).mono ?_; rintro e w' ⟨rfl, rfl⟩)
     refine (writeByte_n B b _ 37 _ hI (by rw [Lib.byteCells_length]; omega) hBw).mono ?_
     rintro e w1 ⟨rfl, h1, b1, k1⟩
     go_wp2_with fail
     rw [hexD_at]
     refine (writeByte_n B b _ _ _ (.inr h1) (by rw [List.length_append, Lib.byteCells_length]; simp; omega) (by have := b1.size; omega)).mono ?_
     rintro e w2 ⟨rfl, h2, b2, k2⟩
     go_wp2_with fail
     rw [hexD_at]
     refine (writeByte_n B b _ _ _ (.inr h2) (by rw [List.length_append, List.length_append, Lib.byteCells_length]; simp; omega) (by have := b1.size; have := b2.size; omega)).mono ?_
     rintro e w3 ⟨rfl, h3, b3, k3⟩
     have k13 := (k1.trans k2).trans k3
     go_wp2
     go_roundw
     case rel =>
      refine ⟨k + 1, by omega, by go_num, ?_, ((hbw.trans b1).trans b2).trans b3, HMk.out.trans k13, HBy.out.kept k13 (by omega)⟩
      rw [HT.out, HP.out, HW2.out, ← List.append_assoc, HAc.out, Lib.byteCells_append]
      refine .inr ?_
      have e3 : Lib.byteCells (esc s[k]) = [.int .u8 37] ++ [.int .u8 (hexD (s[k].toNat / 16)).toNat] ++ [.int .u8 (hexD (s[k].toNat % 16)).toNat] := rfl
      rw [e3]
      simpa using h3
     case measure => simp [intOf]; omega
  ·rw [take_all s k hlt] at hI
   have HF := hid (And.intro hI (And.intro hbw (HK0.out.trans hmk)))
   have hlt' : decide ((k : Int) < (s.size : Int)) = false := by rw [decide_eq_false_iff_not]; omega
   clear hI hbw hmk hby
   go_wp2
   go_end0
   exact ⟨rfl, HF.out⟩

end Go.Proofs.YtmhooefajdndjaaGreatDoor

namespace Go.Proofs.YtmhooefajdndjaaGreatDoor
open Go.RowKit

theorem marks_pair {b g : Nat} {w w' : World} {x y : Value} (h : w.heap[g]? = some (.cells #[x, y] 30 (0, 0))) (hm : MarksKept b w w') (hb : g ≠ b) : w'.heap[g]? = some (.cells #[x, y] 30 (0, 0)) :=
 hm g _ h hb fun c e => by simp at e

def WrJ (w : World) (L : List Hd) (wr : World) (k : Nat) : Prop :=
 Lib.IsBuilder 67 5 w.heap.size w.heap.size (Lib.byteCells (wrV (L.take k))) wr ∧ Below w.heap.size w wr

set_option maxHeartbeats 8000000 in
set_option maxRecDepth 100000 in
theorem writeO_any (v : Value) (L : List Hd) (w : World) (h : HdAt w v L) (hbig : bigQ L ≤ 900000000) (hn : L.length ≤ 1000000) :
  Calls Tryz.prog 15 #[v] w fun e w' => e = .returned (.string ⟨(wrV L).toArray⟩) ∧ Below w.heap.size w w' := by
 have H0 := hid (show WrJ w L (w.alloc (.cells #[.pointer none, .slice none 0 0] 67)) 0 from ⟨Lib.fresh_isBuilder 67 5 w, (Below.refl _ w).alloc (Nat.le_refl _) _⟩)
 have HH := hid h
 obtain ⟨a, cap, rfl, h1, h2, -⟩ := h
 have hn' : (L.length : Int) ≤ 1000000 := by omega
 clear h1 h2
 go_enter Tryz.func15, Tryz.ntmps15
 go_wp2
 go_loopw [8, 4, 5] (fun i _ _ wr => ∃ k : Nat, k ≤ L.length ∧ i = .int .i64 k ∧ WrJ w L wr k) (fun i _ _ _ => L.length - (intOf i).toNat)
 case atStart => exact ⟨0, Nat.zero_le _, rfl, H0.out⟩
 case round =>
  obtain ⟨k, hk, rfl, hI, hbw⟩ := hrel
  by_cases hlt : k < L.length
  ·have hlt' : (k : Int) < (L.length : Int) := by omega
   obtain ⟨a', cap', he, -, -, hcells⟩ := HH.out.kept hbw
   obtain ⟨g, off, ha, c0, c1⟩ := hcells k hlt
   cases he
   subst ha
   obtain ⟨X, hX⟩ : ∃ X : ByteArray, (⟨L[k].name.toArray⟩ : ByteArray) = X := ⟨_, rfl⟩
   obtain ⟨Y, hY⟩ : ∃ X : ByteArray, (⟨L[k].value.toArray⟩ : ByteArray) = X := ⟨_, rfl⟩
   have hbt := big_take L k hlt
   have hal := wrA_le true (L.take k)
   have hXs : X.size = L[k].name.length := by rw [← hX, Lib.size_eq]
   have hYs : Y.size = L[k].value.length := by rw [← hY, Lib.size_eq]
   have HT := hid (show wrV (L.take (k + 1)) = wrV (L.take k) ++ ((if k = 0 then [] else [38]) ++ (wrtV X.data.toList ++ 61 :: wrtV Y.data.toList)) by
    unfold wrV
    rw [List.take_succ_eq_append_getElem hlt, wrA_snoc, wrP, ← hX, ← hY]
    congr 2
    cases k with
    | zero => simp
    | succ k => cases hL : L with
     | nil => rw [hL] at hlt; simp at hlt
     | cons x t => simp)
   rw [hX] at c0
   rw [hY] at c1
   obtain ⟨acc, hacc⟩ : ∃ acc, wrV (L.take k) = acc := ⟨_, rfl⟩
   rw [hacc] at hI HT
   have hal' : acc.length + 3 * X.size + 3 * Y.size + 2 ≤ 900000000 := by rw [← hacc, hXs, hYs]; unfold bigH at hbt; unfold wrV; omega
   have hbl := (bld_lt4 hI).2
   obtain ⟨W1, hW1⟩ : ∃ Z, wr.alloc (.cells #[.string X, .string Y] 30) = Z := ⟨_, rfl⟩
   have hb1 : Below wr.heap.size wr W1 := by rw [← hW1]; exact (Below.refl _ wr).alloc (Nat.le_refl _) _
   have hp1 : W1.heap[wr.heap.size]? = some (.cells #[.string X, .string Y] 30 (0, 0)) := by rw [← hW1]; exact heap_alloc_new wr _
   have hI1 := bld_below4 hI hb1
   have hB1 : Below w.heap.size w W1 := below2 hbw hb1
   have d0 : W1.cell? ⟨wr.heap.size, 0, none⟩ = some (.string X) := by rw [Lib.cell_of_heap hp1]; rfl
   clear hX hY hXs hYs hbt hal hacc hI hbw hb1
   by_cases h0 : k = 0
   ·have HT2 := hid (show wrV (L.take (k + 1)) = acc ++ (wrtV X.data.toList ++ 61 :: wrtV Y.data.toList) by rw [HT.out, if_pos h0]; rfl)
    have h0' : ¬ (0 : Int) < (k : Int) := by omega
    clear h0 HT
    go_wp2_with fail
    refine (write4_any w.heap.size w.heap.size acc X _ hI1 (by omega)).mono ?_
    rintro e w2 ⟨rfl, i2, b2, m2⟩
    have hp2 := marks_pair hp1 m2 (by omega)
    have hB2 := hB1.trans b2
    clear d0 hp1
    have d1 : w2.cell? ⟨wr.heap.size, 1, none⟩ = some (.string Y) := by rw [Lib.cell_of_heap hp2]; rfl
    have hw2 := wrtV_le X.data.toList
    rw [← Lib.size_eq] at hw2
    go_wp2_with fail
    refine (writeByte_n w.heap.size w.heap.size _ 61 _ i2 (by rw [Lib.byteCells_length, List.length_append]; omega) hB2.size).mono ?_
    rintro e w3 ⟨rfl, i3, b3, m3⟩
    have hp3 := marks_pair hp2 m3 (by omega)
    have hB3 := hB2.trans b3
    clear d1 hp2
    have d1 : w3.cell? ⟨wr.heap.size, 1, none⟩ = some (.string Y) := by rw [Lib.cell_of_heap hp3]; rfl
    have HI3 := hid (show Lib.IsBuilder 67 5 w.heap.size w.heap.size (Lib.byteCells (acc ++ wrtV X.data.toList ++ [61])) w3 by rw [Lib.byteCells_append (acc ++ wrtV X.data.toList)]; exact .inr i3)
    clear i2 i3
    go_wp2_with fail
    refine (write4_any w.heap.size w.heap.size _ Y _ HI3.out (by rw [List.length_append, List.length_append]; simp; omega)).mono ?_
    rintro e w4 ⟨rfl, i4, b4, m4⟩
    have HR := hid (show WrJ w L w4 (k + 1) from ⟨by rw [HT2.out]; simpa using i4, hB3.trans b4⟩)
    clear i4 hp3 d1
    go_wp2
    go_roundw
    case rel => exact ⟨k + 1, by omega, by go_num, HR.out⟩
    case measure => simp [intOf]; omega
   ·have HT2 := hid (show wrV (L.take (k + 1)) = acc ++ ([38] ++ (wrtV X.data.toList ++ 61 :: wrtV Y.data.toList)) by rw [HT.out, if_neg h0])
    have h0' : (0 : Int) < (k : Int) := by omega
    clear h0 HT d0
    go_wp2_with fail
    refine (writeByte_n w.heap.size w.heap.size _ 38 _ hI1 (by rw [Lib.byteCells_length]; omega) hB1.size).mono ?_
    rintro e w9 ⟨rfl, i9, b9, m9⟩
    have hp9 := marks_pair hp1 m9 (by omega)
    have hB9 := hB1.trans b9
    have HI9 := hid (show Lib.IsBuilder 67 5 w.heap.size w.heap.size (Lib.byteCells (acc ++ [38])) w9 by rw [Lib.byteCells_append]; exact .inr i9)
    clear hp1 i9
    have d0 : w9.cell? ⟨wr.heap.size, 0, none⟩ = some (.string X) := by rw [Lib.cell_of_heap hp9]; rfl
    go_wp2_with fail
    refine (write4_any w.heap.size w.heap.size (acc ++ [38]) X _ HI9.out (by rw [List.length_append]; simp; omega)).mono ?_
    rintro e w2 ⟨rfl, i2, b2, m2⟩
    have hp2 := marks_pair hp9 m2 (by omega)
    have hB2 := hB9.trans b2
    clear d0 hp9
    have d1 : w2.cell? ⟨wr.heap.size, 1, none⟩ = some (.string Y) := by rw [Lib.cell_of_heap hp2]; rfl
    have hw2 := wrtV_le X.data.toList
    rw [← Lib.size_eq] at hw2
    go_wp2_with fail
    refine (writeByte_n w.heap.size w.heap.size _ 61 _ i2 (by rw [Lib.byteCells_length, List.length_append, List.length_append]; simp; omega) hB2.size).mono ?_
    rintro e w3 ⟨rfl, i3, b3, m3⟩
    have hp3 := marks_pair hp2 m3 (by omega)
    have hB3 := hB2.trans b3
    clear d1 hp2
    have d1 : w3.cell? ⟨wr.heap.size, 1, none⟩ = some (.string Y) := by rw [Lib.cell_of_heap hp3]; rfl
    have HI3 := hid (show Lib.IsBuilder 67 5 w.heap.size w.heap.size (Lib.byteCells (acc ++ [38] ++ wrtV X.data.toList ++ [61])) w3 by rw [Lib.byteCells_append (acc ++ [38] ++ wrtV X.data.toList)]; exact .inr i3)
    clear i2 i3
    go_wp2_with fail
    refine (write4_any w.heap.size w.heap.size _ Y _ HI3.out (by rw [List.length_append, List.length_append, List.length_append]; simp; omega)).mono ?_
    rintro e w4 ⟨rfl, i4, b4, m4⟩
    have HR := hid (show WrJ w L w4 (k + 1) from ⟨by rw [HT2.out]; simpa using i4, hB3.trans b4⟩)
    clear i4 hp3 d1
    go_wp2
    go_roundw
    case rel => exact ⟨k + 1, by omega, by go_num, HR.out⟩
    case measure => simp [intOf]; omega
  ·have hlt' : decide ((k : Int) < (L.length : Int)) = false := by rw [decide_eq_false_iff_not]; omega
   rw [List.take_of_length_le (by omega)] at hI
   have HI := hid hI
   have HB := hid hbw
   clear hI hbw
   go_wp2_with fail
   refine (Tryz.Builder_String_any w.heap.size w.heap.size _ _ HI.out HB.out.size).mono ?_
   rintro e w1 ⟨rfl, b1⟩
   go_wp2
   go_ret
   exact ⟨rfl, HB.out.trans b1⟩

end Go.Proofs.YtmhooefajdndjaaGreatDoor

namespace Go.Proofs.YtmhooefajdndjaaGreatDoor
open Go.RowKit

def nO0 : Org := ⟨sHttps, [104], 443, false⟩

theorem no_0 : ofT [104, 116, 116, 112, 115, 58, 47, 47, 104, 47] = nO0 := by decide +kernel

def nO1 : Org := ⟨sHttps, [98, 46, 99, 111, 109], 443, false⟩

theorem no_1 : ofT [104, 116, 116, 112, 115, 58, 47, 47, 98, 46, 99, 111, 109] = nO1 := by decide +kernel

def nO2 : Org := ⟨sHttps, [49, 46, 50, 46, 51, 46, 52], 443, false⟩

theorem no_2 : ofT [104, 116, 116, 112, 115, 58, 47, 47, 49, 46, 50, 46, 51, 46, 52] = nO2 := by decide +kernel

def nO3 : Org := ⟨sHttp, [108, 111, 99, 97, 108, 104, 111, 115, 116], 80, false⟩

theorem no_3 : ofT [104, 116, 116, 112, 58, 47, 47, 108, 111, 99, 97, 108, 104, 111, 115, 116] = nO3 := by decide +kernel

def nO4 : Org := ⟨sHttp, [99, 111, 46, 117, 107], 80, false⟩

theorem no_4 : ofT [104, 116, 116, 112, 58, 47, 47, 99, 111, 46, 117, 107] = nO4 := by decide +kernel

def nO5 : Org := ⟨sHttps, [120, 46, 121, 46, 122, 46, 99, 111, 109], 443, false⟩

theorem no_5 : ofT [104, 116, 116, 112, 115, 58, 47, 47, 120, 46, 121, 46, 122, 46, 99, 111, 109] = nO5 := by decide +kernel

def nO6 : Org := Org.none

theorem no_6 : ofT [100, 97, 116, 97, 58, 97] = nO6 := by decide +kernel

def nO7 : Org := Org.none

theorem no_7 : ofT [100, 97, 116, 97, 58, 97] = nO7 := by decide +kernel

def nO8 : Org := ⟨sHttps, [104], 443, false⟩

theorem no_8 : ofT [98, 108, 111, 98, 58, 104, 116, 116, 112, 115, 58, 47, 47, 104, 47, 120] = nO8 := by decide +kernel

def nO9 : Org := ⟨sHttps, [104], 443, false⟩

theorem no_9 : ofT [104, 116, 116, 112, 115, 58, 47, 47, 104, 58, 52, 52, 51, 47] = nO9 := by decide +kernel

theorem nt_0 : textO nO0 = [104, 116, 116, 112, 115, 58, 47, 47, 104] := by decide +kernel

theorem ns_1 : siteV nO1 = [98, 46, 99, 111, 109] := by decide +kernel

theorem ns_2 : siteV nO2 = [49, 46, 50, 46, 51, 46, 52] := by decide +kernel

theorem ns_3 : siteV nO3 = [108, 111, 99, 97, 108, 104, 111, 115, 116] := by decide +kernel

theorem ns_4 : siteV nO4 = [99, 111, 46, 117, 107] := by decide +kernel

theorem ns_5 : siteV nO5 = [122, 46, 99, 111, 109] := by decide +kernel

theorem nm_6 : sameO nO6 nO7 = false := by decide +kernel

theorem nm_8 : sameO nO8 nO9 = true := by decide +kernel

theorem nr_0 : trT [104, 116, 116, 112, 58, 47, 47, 108, 111, 99, 97, 108, 104, 111, 115, 116, 47] = true := by decide +kernel

theorem nr_1 : trT [104, 116, 116, 112, 58, 47, 47, 97, 46, 108, 111, 99, 97, 108, 104, 111, 115, 116, 58, 53] = true := by decide +kernel

theorem nr_2 : trT [104, 116, 116, 112, 58, 47, 47, 49, 50, 55, 46, 48, 46, 48, 46, 49] = true := by decide +kernel

theorem nr_3 : trT [104, 116, 116, 112, 58, 47, 47, 104] = false := by decide +kernel

theorem nr_4 : trT [98, 108, 111, 98, 58, 104, 116, 116, 112, 115, 58, 47, 47, 104, 47, 120] = true := by decide +kernel

theorem nr_5 : trT [100, 97, 116, 97, 58, 120] = true := by decide +kernel

theorem nr_6 : trT [104, 116, 116, 112, 58, 47, 47, 91, 58, 58, 49, 93, 47] = true := by decide +kernel

def nP : List Hd := [⟨[97, 32, 98], [195, 169, 42]⟩]

theorem nw : wrV nP = [97, 43, 98, 61, 37, 67, 51, 37, 65, 57, 42] := by decide +kernel

theorem nq : querQ [] = [] := by decide +kernel

theorem same4_at (a b : Org) (q : Bool) (h : sameO a b = q) : ∀ w : World, Calls Tryz.prog 13 #[orgVal a, orgVal b] w fun e w' => e = .returned (.bool q) ∧ Below w.heap.size w w' := fun w => by
 have := same4_any a b w
 rw [h] at this
 exact this

theorem trusted4_at (S : ByteArray) (l : List UInt8) (q : Bool) (hl : S.data.toList = l) (h : trT l = q) (hs : S.size ≤ 9223372036854775807) : ∀ w, Gd w → Calls Tryz.prog 14 #[.string S] w fun e w' => e = .returned (.bool q) ∧ Below w.heap.size w w' := fun w hg => by
 have := trusted4_any S w hg hs
 rw [hl, h] at this
 exact this

theorem np_at {W : World} {g : Nat} (h : W.heap[g]? = some (.cells #[.string ⟨#[97, 32, 98]⟩, .string ⟨#[195, 169, 42]⟩] 30 (0, 0))) : HdAt W (.slice (some ⟨g, 0, none⟩) 1 1) nP :=
 ⟨some ⟨g, 0, none⟩, 1, rfl, Nat.le_refl _, by decide, fun j hj => by
  match j, hj with
  | 0, _ => exact ⟨g, 0, rfl, by rw [Lib.cell_of_heap h]; rfl, by rw [Lib.cell_of_heap h]; rfl⟩⟩

set_option maxHeartbeats 16000000 in
set_option maxRecDepth 100000 in
theorem originNumbers_walk (w : World) (hg : Gd w) : Calls Tryz.prog 3 #[] w fun e w' => e = .returned (.bool true) ∧ Below w.heap.size w w' := by
 have HG0 := hid hg
 have HB0 := hid (Below.refl w.heap.size w)
 have H0 := hid (of4_at (⟨#[104, 116, 116, 112, 115, 58, 47, 47, 104, 47]⟩ : ByteArray) _ _ rfl no_0 (by decide))
 have H1 := hid (of4_at (⟨#[104, 116, 116, 112, 115, 58, 47, 47, 98, 46, 99, 111, 109]⟩ : ByteArray) _ _ rfl no_1 (by decide))
 have H2 := hid (of4_at (⟨#[104, 116, 116, 112, 115, 58, 47, 47, 49, 46, 50, 46, 51, 46, 52]⟩ : ByteArray) _ _ rfl no_2 (by decide))
 have H3 := hid (of4_at (⟨#[104, 116, 116, 112, 58, 47, 47, 108, 111, 99, 97, 108, 104, 111, 115, 116]⟩ : ByteArray) _ _ rfl no_3 (by decide))
 have H4 := hid (of4_at (⟨#[104, 116, 116, 112, 58, 47, 47, 99, 111, 46, 117, 107]⟩ : ByteArray) _ _ rfl no_4 (by decide))
 have H5 := hid (of4_at (⟨#[104, 116, 116, 112, 115, 58, 47, 47, 120, 46, 121, 46, 122, 46, 99, 111, 109]⟩ : ByteArray) _ _ rfl no_5 (by decide))
 have H6 := hid (of4_at (⟨#[100, 97, 116, 97, 58, 97]⟩ : ByteArray) _ _ rfl no_6 (by decide))
 have H7 := hid (of4_at (⟨#[100, 97, 116, 97, 58, 97]⟩ : ByteArray) _ _ rfl no_7 (by decide))
 have H8 := hid (of4_at (⟨#[98, 108, 111, 98, 58, 104, 116, 116, 112, 115, 58, 47, 47, 104, 47, 120]⟩ : ByteArray) _ _ rfl no_8 (by decide))
 have H9 := hid (of4_at (⟨#[104, 116, 116, 112, 115, 58, 47, 47, 104, 58, 52, 52, 51, 47]⟩ : ByteArray) _ _ rfl no_9 (by decide))
 obtain ⟨X0, hX0⟩ : ∃ X : ByteArray, X = ⟨#[104, 116, 116, 112, 115, 58, 47, 47, 104]⟩ := ⟨_, rfl⟩
 have T0 := hid (text4_at _ X0 _ nt_0 hX0 (by decide))
 have b0 := lit_beq X0 _ hX0
 obtain ⟨X1, hX1⟩ : ∃ X : ByteArray, X = ⟨#[98, 46, 99, 111, 109]⟩ := ⟨_, rfl⟩
 have T1 := hid (site4_at _ X1 _ ns_1 hX1 (by decide +kernel))
 have b1 := lit_beq X1 _ hX1
 obtain ⟨X2, hX2⟩ : ∃ X : ByteArray, X = ⟨#[49, 46, 50, 46, 51, 46, 52]⟩ := ⟨_, rfl⟩
 have T2 := hid (site4_at _ X2 _ ns_2 hX2 (by decide +kernel))
 have b2 := lit_beq X2 _ hX2
 obtain ⟨X3, hX3⟩ : ∃ X : ByteArray, X = ⟨#[108, 111, 99, 97, 108, 104, 111, 115, 116]⟩ := ⟨_, rfl⟩
 have T3 := hid (site4_at _ X3 _ ns_3 hX3 (by decide +kernel))
 have b3 := lit_beq X3 _ hX3
 obtain ⟨X4, hX4⟩ : ∃ X : ByteArray, X = ⟨#[99, 111, 46, 117, 107]⟩ := ⟨_, rfl⟩
 have T4 := hid (site4_at _ X4 _ ns_4 hX4 (by decide +kernel))
 have b4 := lit_beq X4 _ hX4
 obtain ⟨X5, hX5⟩ : ∃ X : ByteArray, X = ⟨#[122, 46, 99, 111, 109]⟩ := ⟨_, rfl⟩
 have T5 := hid (site4_at _ X5 _ ns_5 hX5 (by decide +kernel))
 have b5 := lit_beq X5 _ hX5
 have M6 := hid (same4_at nO6 nO7 _ nm_6)
 have M8 := hid (same4_at nO8 nO9 _ nm_8)
 generalize orgVal nO0 = V0 at H0 T0
 generalize orgVal nO1 = V1 at H1 T1
 generalize orgVal nO2 = V2 at H2 T2
 generalize orgVal nO3 = V3 at H3 T3
 generalize orgVal nO4 = V4 at H4 T4
 generalize orgVal nO5 = V5 at H5 T5
 generalize orgVal nO6 = V6 at H6 M6
 generalize orgVal nO7 = V7 at H7 M6
 generalize orgVal nO8 = V8 at H8 M8
 generalize orgVal nO9 = V9 at H9 M8
 have R0 := hid (trusted4_at (⟨#[104, 116, 116, 112, 58, 47, 47, 108, 111, 99, 97, 108, 104, 111, 115, 116, 47]⟩ : ByteArray) _ _ rfl nr_0 (by decide))
 have R1 := hid (trusted4_at (⟨#[104, 116, 116, 112, 58, 47, 47, 97, 46, 108, 111, 99, 97, 108, 104, 111, 115, 116, 58, 53]⟩ : ByteArray) _ _ rfl nr_1 (by decide))
 have R2 := hid (trusted4_at (⟨#[104, 116, 116, 112, 58, 47, 47, 49, 50, 55, 46, 48, 46, 48, 46, 49]⟩ : ByteArray) _ _ rfl nr_2 (by decide))
 have R3 := hid (trusted4_at (⟨#[104, 116, 116, 112, 58, 47, 47, 104]⟩ : ByteArray) _ _ rfl nr_3 (by decide))
 have R4 := hid (trusted4_at (⟨#[98, 108, 111, 98, 58, 104, 116, 116, 112, 115, 58, 47, 47, 104, 47, 120]⟩ : ByteArray) _ _ rfl nr_4 (by decide))
 have R5 := hid (trusted4_at (⟨#[100, 97, 116, 97, 58, 120]⟩ : ByteArray) _ _ rfl nr_5 (by decide))
 have R6 := hid (trusted4_at (⟨#[104, 116, 116, 112, 58, 47, 47, 91, 58, 58, 49, 93, 47]⟩ : ByteArray) _ _ rfl nr_6 (by decide))
 obtain ⟨XW, hXW⟩ : ∃ X : ByteArray, X = ⟨#[97, 43, 98, 61, 37, 67, 51, 37, 65, 57, 42]⟩ := ⟨_, rfl⟩
 have HWr := hid (fun (v : Value) (w : World) (h : HdAt w v nP) => writeO_any v nP w h (by decide) (by decide))
 rw [nw, ← hXW] at HWr
 have bW := lit_beq XW _ hXW
 have HQ := hid (fun (w : World) (hg : Gd w) => query4_any ⟨#[]⟩ w hg (by decide))
 rw [show (⟨#[]⟩ : ByteArray).data.toList = [] from rfl, nq] at HQ
 unfold QPost at HQ
 clear hg hX0 hX1 hX2 hX3 hX4 hX5 hXW
 go_enter Tryz.func3, Tryz.ntmps3
 go_wp2_with fail
 refine (H0.out _ HG0.out).mono ?_
 rintro e w1 ⟨rfl, hb1⟩
 have HG1 := hid (HG0.out.kept hb1)
 have HB1 := hid (below2 HB0.out hb1)
 clear hb1
 go_wp2_with fail
 refine (T0.out _ HG1.out).mono ?_
 rintro e w2 ⟨rfl, hb2⟩
 have HG2 := hid (HG1.out.kept hb2)
 have HB2 := hid (below2 HB1.out hb2)
 clear hb2
 go_wp2_with fail
 refine (H1.out _ HG2.out).mono ?_
 rintro e w3 ⟨rfl, hb3⟩
 have HG3 := hid (HG2.out.kept hb3)
 have HB3 := hid (below2 HB2.out hb3)
 clear hb3
 go_wp2_with fail
 refine (T1.out _ HG3.out).mono ?_
 rintro e w4 ⟨rfl, hb4⟩
 have HG4 := hid (HG3.out.kept hb4)
 have HB4 := hid (below2 HB3.out hb4)
 clear hb4
 go_wp2_with fail
 refine (H2.out _ HG4.out).mono ?_
 rintro e w5 ⟨rfl, hb5⟩
 have HG5 := hid (HG4.out.kept hb5)
 have HB5 := hid (below2 HB4.out hb5)
 clear hb5
 go_wp2_with fail
 refine (T2.out _ HG5.out).mono ?_
 rintro e w6 ⟨rfl, hb6⟩
 have HG6 := hid (HG5.out.kept hb6)
 have HB6 := hid (below2 HB5.out hb6)
 clear hb6
 go_wp2_with fail
 refine (H3.out _ HG6.out).mono ?_
 rintro e w7 ⟨rfl, hb7⟩
 have HG7 := hid (HG6.out.kept hb7)
 have HB7 := hid (below2 HB6.out hb7)
 clear hb7
 go_wp2_with fail
 refine (T3.out _ HG7.out).mono ?_
 rintro e w8 ⟨rfl, hb8⟩
 have HG8 := hid (HG7.out.kept hb8)
 have HB8 := hid (below2 HB7.out hb8)
 clear hb8
 go_wp2_with fail
 refine (H4.out _ HG8.out).mono ?_
 rintro e w9 ⟨rfl, hb9⟩
 have HG9 := hid (HG8.out.kept hb9)
 have HB9 := hid (below2 HB8.out hb9)
 clear hb9
 go_wp2_with fail
 refine (T4.out _ HG9.out).mono ?_
 rintro e w10 ⟨rfl, hb10⟩
 have HG10 := hid (HG9.out.kept hb10)
 have HB10 := hid (below2 HB9.out hb10)
 clear hb10
 go_wp2_with fail
 refine (H5.out _ HG10.out).mono ?_
 rintro e w11 ⟨rfl, hb11⟩
 have HG11 := hid (HG10.out.kept hb11)
 have HB11 := hid (below2 HB10.out hb11)
 clear hb11
 go_wp2_with fail
 refine (T5.out _ HG11.out).mono ?_
 rintro e w12 ⟨rfl, hb12⟩
 have HG12 := hid (HG11.out.kept hb12)
 have HB12 := hid (below2 HB11.out hb12)
 clear hb12
 go_wp2_with fail
 refine (H6.out _ HG12.out).mono ?_
 rintro e w13 ⟨rfl, hb13⟩
 have HG13 := hid (HG12.out.kept hb13)
 have HB13 := hid (below2 HB12.out hb13)
 clear hb13
 go_wp2_with fail
 refine (H7.out _ HG13.out).mono ?_
 rintro e w14 ⟨rfl, hb14⟩
 have HG14 := hid (HG13.out.kept hb14)
 have HB14 := hid (below2 HB13.out hb14)
 clear hb14
 go_wp2_with fail
 refine (M6.out _).mono ?_
 rintro e w15 ⟨rfl, hb15⟩
 have HG15 := hid (HG14.out.kept hb15)
 have HB15 := hid (below2 HB14.out hb15)
 clear hb15
 go_wp2_with fail
 refine (H8.out _ HG15.out).mono ?_
 rintro e w16 ⟨rfl, hb16⟩
 have HG16 := hid (HG15.out.kept hb16)
 have HB16 := hid (below2 HB15.out hb16)
 clear hb16
 go_wp2_with fail
 refine (H9.out _ HG16.out).mono ?_
 rintro e w17 ⟨rfl, hb17⟩
 have HG17 := hid (HG16.out.kept hb17)
 have HB17 := hid (below2 HB16.out hb17)
 clear hb17
 go_wp2_with fail
 refine (M8.out _).mono ?_
 rintro e w18 ⟨rfl, hb18⟩
 have HG18 := hid (HG17.out.kept hb18)
 have HB18 := hid (below2 HB17.out hb18)
 clear hb18
 go_wp2_with fail
 refine (R0.out _ HG18.out).mono ?_
 rintro e w19 ⟨rfl, hb19⟩
 have HG19 := hid (HG18.out.kept hb19)
 have HB19 := hid (below2 HB18.out hb19)
 clear hb19
 go_wp2_with fail
 refine (R1.out _ HG19.out).mono ?_
 rintro e w20 ⟨rfl, hb20⟩
 have HG20 := hid (HG19.out.kept hb20)
 have HB20 := hid (below2 HB19.out hb20)
 clear hb20
 go_wp2_with fail
 refine (R2.out _ HG20.out).mono ?_
 rintro e w21 ⟨rfl, hb21⟩
 have HG21 := hid (HG20.out.kept hb21)
 have HB21 := hid (below2 HB20.out hb21)
 clear hb21
 go_wp2_with fail
 refine (R3.out _ HG21.out).mono ?_
 rintro e w22 ⟨rfl, hb22⟩
 have HG22 := hid (HG21.out.kept hb22)
 have HB22 := hid (below2 HB21.out hb22)
 clear hb22
 go_wp2_with fail
 refine (R4.out _ HG22.out).mono ?_
 rintro e w23 ⟨rfl, hb23⟩
 have HG23 := hid (HG22.out.kept hb23)
 have HB23 := hid (below2 HB22.out hb23)
 clear hb23
 go_wp2_with fail
 refine (R5.out _ HG23.out).mono ?_
 rintro e w24 ⟨rfl, hb24⟩
 have HG24 := hid (HG23.out.kept hb24)
 have HB24 := hid (below2 HB23.out hb24)
 clear hb24
 go_wp2_with fail
 refine (R6.out _ HG24.out).mono ?_
 rintro e w25 ⟨rfl, hb25⟩
 have HG25 := hid (HG24.out.kept hb25)
 have HB25 := hid (below2 HB24.out hb25)
 clear hb25
 obtain ⟨WW, hWW⟩ : ∃ X, w25.alloc (.cells #[.string ⟨#[97, 32, 98]⟩, .string ⟨#[195, 169, 42]⟩] 30) = X := ⟨_, rfl⟩
 have hbW : Below w25.heap.size w25 WW := by rw [← hWW]; exact (Below.refl _ w25).alloc (Nat.le_refl _) _
 have HWc := hid (HWr.out _ WW (np_at (by rw [← hWW]; exact heap_alloc_new w25 _)))
 have HGw := hid (HG25.out.kept hbW)
 have HBw := hid (below2 HB25.out hbW)
 clear hbW HWr
 go_wp2_with fail
 refine HWc.out.mono ?_
 rintro e v1 ⟨rfl, hb⟩
 have HG1v := hid (HGw.out.kept hb)
 have HB1v := hid (below2 HBw.out hb)
 clear hb
 go_wp2_with fail
 refine (HQ.out _ HG1v.out).mono ?_
 rintro e v2 ⟨qv, rfl, hown, hb⟩
 obtain ⟨qa, qcap, rfl, -, -, -⟩ := (own_hd hown).view
 have HG2v := hid (HG1v.out.kept hb)
 have HB2v := hid (below2 HB1v.out hb)
 clear hb hown
 go_wp2_with fail
 refine (known4_any _ HG2v.out).mono ?_
 rintro e v3 ⟨rfl, hb⟩
 go_wp2
 go_ret
 exact ⟨rfl, below2 HB2v.out hb⟩

end Go.Proofs.YtmhooefajdndjaaGreatDoor

namespace Go.Proofs.YtmhooefajdndjaaGreatDoor
open Go.RowKit

def laid7 : List (String × DataW Unit) := [("math/bits.deBruijn32tab", Rows.laid_math_bits_deBruijn32tab), ("math/bits.deBruijn64tab", Rows.laid_math_bits_deBruijn64tab), ("internal/strconv.uint64pow10", Rows.laid_internal_strconv_uint64pow10), ("unicode/utf8.acceptRanges", Rows.laid_unicode_utf8_acceptRanges), ("unicode/utf8.first", Rows.laid_unicode_utf8_first)]

theorem g5_of_shaped {W : World} (hsh : W.ShapedOpen Tryz.prog) : G5 W := Tryz.laysM145.s1_3 W hsh

theorem gd7_of_laid {W : World} (h : laidMetH Tryz.prog laid7 W) (hsh : W.ShapedOpen Tryz.prog) : Gd W := by
 have h' : laidMet Tryz.prog laid7 W := h
 have h2 := h'.tail
 have h3 := h2.tail
 refine ⟨Tryz.laysM145.s1_3 W hsh, ?_, ?_⟩
 ·exact Lib.tabIs_of_head gPow10 (by kernel_rfl) Tryz.underlying141 Tryz.underlying124 (by kernel_rfl) (by kernel_rfl) h3
 ·exact Lib.tabIs_of_head gDB64 (by kernel_rfl) Tryz.underlying176 Tryz.underlying5 (by kernel_rfl) (by kernel_rfl) h2

theorem ownK : ownKnob Tryz.prog.godebug = none := by kernel_rfl

noncomputable def startW (os : Os) : World :=
 { World.doorLaid Tryz.prog 24 os with heap := (World.doorLaid Tryz.prog 24 os).heap.setIfInBounds 2 (.cells (Pinned.utf8FirstZ.map fun (n : Nat) => Value.int .u8 (n : Int)).toArray 163 (0, 0)) }

theorem door_met (os : Os) (args : Array Value) : laidMetH Tryz.prog laid7 ((startW os).forCall (fun _ _ => 0) ⟨#[], args, []⟩).memory :=
 laidMetH_of_parts3 (fuel := 8) (laidMet_of_run' 8 (by kernel_rfl) (by kernel_rfl)) (by kernel_rfl) (by kernel_rfl)

end Go.Proofs.YtmhooefajdndjaaGreatDoor
