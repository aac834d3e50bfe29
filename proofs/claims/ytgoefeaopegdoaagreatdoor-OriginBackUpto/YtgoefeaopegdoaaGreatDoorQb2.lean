/-
  Walks and plain facts that this claim leans on, put together out of 4 texts: Ewq, Yte, Ewn, Ewx.
-/
import Derived.Test.YtgoefeaopegdoaaGreatDoorProg
import Derived.Test.YtgoefeaopegdoaaGreatDoorQa1
import Derived.Test.YtgoefeaopegdoaaGreatDoorQa2
import Derived.Test.YtgoefeaopegdoaaGreatDoorQa3
import Derived.Test.YtgoefeaopegdoaaGreatDoorQa4
import Derived.Test.YtgoefeaopegdoaaGreatDoorQa5
import Derived.Test.YtgoefeaopegdoaaGreatDoorQa6
import Derived.Test.YtgoefeaopegdoaaGreatDoorQa7
import Derived.Test.YtgoefeaopegdoaaGreatDoorQa8
import Derived.Test.YtgoefeaopegdoaaGreatDoorQa9
import Derived.Test.YtgoefeaopegdoaaGreatDoorQa10
import Derived.Test.YtgoefeaopegdoaaGreatDoorQa11
import Derived.Test.YtgoefeaopegdoaaGreatDoorQa12
import Derived.Test.YtgoefeaopegdoaaGreatDoorQa13
import Derived.Test.YtgoefeaopegdoaaGreatDoorQa14
import Derived.Test.YtgoefeaopegdoaaGreatDoorQa15
import Derived.Test.YtgoefeaopegdoaaGreatDoorQa16
import Derived.Test.YtgoefeaopegdoaaGreatDoorQa17
import Derived.Test.YtgoefeaopegdoaaGreatDoorQa18
import Derived.Test.YtgoefeaopegdoaaGreatDoorQa19
import Derived.Test.YtgoefeaopegdoaaGreatDoorQa20
import Derived.Test.YtgoefeaopegdoaaGreatDoorQa21
import Derived.Test.YtgoefeaopegdoaaGreatDoorQa22
import Derived.Test.YtgoefeaopegdoaaGreatDoorQa23
import Derived.Test.YtgoefeaopegdoaaGreatDoorQa24
import Derived.Test.YtgoefeaopegdoaaGreatDoorQa25
import Derived.Test.YtgoefeaopegdoaaGreatDoorQa26
import Derived.Test.YtgoefeaopegdoaaGreatDoorQa27
import Derived.Test.YtgoefeaopegdoaaGreatDoorQb1
import Derived.Lib.IndexMore
import Derived.Lib.Join
import Derived.Lib.LastIndexByte
import Derived.WalkKit
import Derived.Lib.Strings
import Derived.Lib.UnsafeStr
import Derived.Laws.IdiomStrings
import Derived.Laws.AppendOwn
import Derived.Laws.BitsAllLaws
import Derived.Lib.Bytealg
import Derived.Lib.BufferMore
import Derived.Lib.BufferRead
import Derived.Lib.RuneBytes
import Derived.Laws.RangeAny
import Derived.LoopN
import Derived.RegionTactic
import Derived.Deep.RegionWith
import Derived.Deep.QuietTactic
import Derived.BigQuiet
import Derived.Laws.OwnMore
import Derived.Shelf.Strings.Builder1
import Derived.Shelf.Strings.Builder2
import Derived.Shelf.Strings.OnBuilder
import Derived.Shelf.Strings.Trim
import Derived.Shelf.Small.Utf8
import Derived.Shelf.Small.Bits
import Derived.Shelf.Small.Strs
import Derived.Shelf.Small.Wraps
import Derived.Shelf.Strings.BuilderF
import Derived.Shelf.Strings.BuilderK
import Derived.Shelf.Strings.BuilderRune
import Derived.Shelf.Utf8.AppendRune
import Derived.Shelf.Utf8.AppendRunePlain
import Derived.Shelf.Strings.Builder2Cap
import Derived.Shelf.Strconv.Itoa0
import Derived.Shelf.Strconv.Itoa1
import Derived.Shelf.LaysM
import Derived.Shelf.Strconv.Itoa2
import Derived.Shelf.Strconv.Itoa3
import Derived.Shelf.Strings.Search1
import Derived.Shelf.Strings.Search2
import Derived.Shelf.Strings.Search3
import Derived.Shelf.Strings.Cut
import Derived.Shelf.Strings.Count
import Derived.Shelf.Strings.Shaped
import Derived.Shelf.Strings.LastIndex
import Derived.Shelf.Strings.Prefix
import Derived.Shelf.Strings.Split
import Derived.Shelf.Strings.Replace
import Derived.Shelf.Strings.Runes
import Derived.Shelf.Strings.IndexAny
import Derived.Shelf.Strings.AsciiSet
import Derived.Shelf.Strings.IndexAnyAll
import Derived.Shelf.Unicode.DecodeSlow
import Derived.Ground.Names2Prog
import Derived.Shelf.Slices.Clone
import Derived.Shelf.Slices.In.SortNone
import Derived.Ground.SlgnProg
import Derived.Shelf.SlicesE.Clone
import Derived.Scope
import Derived.ScopeJumps
import Derived.WalkMore
import Derived.Lib.IndexAny
import Derived.Lib.Replace
import Derived.Lib.TrimByte
import Derived.Lib.ItoaNum
import Derived.Lib.DecodeN
import Derived.Lib.OthersKept
import Derived.Deep.LoopGhost
import Derived.Laws.BytesString
import Derived.Deep.WholeRow
import Derived.BigRegion
import Derived.WalkSpells
import Derived.WalkLawsBesides
import Derived.Lib.AppendIntMem
import Derived.Lib.SmallJoins
import Derived.WalkSmall
import Derived.OwnWalk
import Derived.Laws.CopyOwn
import Derived.Laws.ResultCell
import Derived.Deep.MidRow
import Derived.Lib.FrozenHead2
import Derived.Lib.Builder
import Derived.Deep.RegionLaw
import Derived.Lib.SlTrimSet
import Derived.Below
import Derived.Shelf.Strings.SlTrimAscii
import Derived.Laws.Runes
import Derived.Laws.AppendOwnNone
import Derived.Deep.Cut
import Derived.Lib.AppendStr
import Derived.Deep.RegionHeld
set_option linter.unusedSimpArgs false
set_option linter.unusedVariables false

namespace Go.Proofs.YtgoefeaopegdoaaGreatDoor
open Go.RowKit

def plusC (c : UInt8) : UInt8 := if c = 43 then 32 else c

def readQ (s : List UInt8) : List UInt8 := dec (unpct (s.map plusC))

def pairQ (p : List UInt8) : Hd := ⟨readQ (part 61 p).1, readQ (part 61 p).2.1⟩

def fullQ (p : List UInt8) : Bool := !(p == [])

def querQ (s : List UInt8) : List Hd := ((cutL 38 s).filter fullQ).map pairQ

theorem plusC_none (l : List UInt8) (h : 43 ∉ l) : l.map plusC = l := by
 induction l with
 | nil => rfl
 | cons c l ih =>
  have hc : c ≠ 43 := fun e => h (by simp [e])
  have hl : 43 ∉ l := fun e => h (by simp [e])
  rw [List.map_cons, ih hl, plusC, if_neg hc]

theorem repl_plus : ∀ (n : Nat) (l : List UInt8), l.count 43 ≤ n → Lib.replaceK [43] [32] n l = l.map plusC := by
 intro n
 induction n with
 | zero =>
  intro l h
  rw [Lib.replaceK, plusC_none l]
  exact List.count_eq_zero.1 (by omega)
 | succ n ih =>
  intro l h
  rcases first_split 43 l with h1 | ⟨a, r, h1, rfl⟩
  ·rw [Lib.replaceK, index_one_none l 43 h1, plusC_none l h1]; rfl
  ·rw [Lib.replaceK_hit [43] [32] n _ a.length (index_one_some a r 43 h1)]
   have hc : r.count 43 ≤ n := by
    rw [List.count_append, List.count_cons] at h
    simp at h; omega
   have e1 : (a ++ 43 :: r).take a.length = a := by simp
   have e2 : (a ++ 43 :: r).drop (a.length + [(43 : UInt8)].length) = r := by simp
   rw [e1, e2, ih r hc, List.map_append, List.map_cons, plusC_none a h1]
   simp [plusC]

theorem repl_plus_all (l : List UInt8) : Lib.replaceAll l [43] [32] = l.map plusC := by
 unfold Lib.replaceAll Lib.replace
 rw [if_neg (by decide)]
 refine repl_plus _ l ?_
 unfold Lib.replaceNum
 rw [if_pos (.inl (by decide))]
 unfold Lib.count
 rw [count_one 43 _ l (by omega)]
 exact Nat.le_refl _

theorem cutL_cnt (c : UInt8) : ∀ (l : List UInt8), (cutL c l).length ≤ l.length + 1 := by
 intro l
 induction hn : l.length using Nat.strongRecOn generalizing l with
 | ind n ih =>
  rw [cutL_part]
  split
  ·rename_i h
   have h1 := part_rest c l h
   have := ih (part c l).2.1.length (by omega) (part c l).2.1 rfl
   rw [List.length_cons]; omega
  ·simp

theorem countB4 (s : ByteArray) (c : UInt8) : Lib.countB s ⟨#[c]⟩ ≤ s.size := by
 have h1 := split_count c s
 have h2 := cutL_cnt c s.data.toList
 rw [← Lib.size_eq] at h2
 omega

theorem SlB.ofBytes4 (w : World) (e : TypeId) (s : ByteArray) (cap : Nat) (hcap : s.size ≤ cap) : SlB (w.drew.alloc (.cells (bytesRow s cap) e ((bytesRow s cap).size, (bytesRow s cap).size + 1))) (.slice (some ⟨w.heap.size, 0, none⟩) s.size cap) s.data.toList := by
 refine .inr ⟨_, cap, by rw [Lib.size_eq], fun j hj => ?_⟩
 have := (rowIs_bytes w e s cap hcap).cell j hj
 rw [Addr.add_lit]
 simpa using this

set_option maxHeartbeats 4000000 in
set_option maxRecDepth 100000 in
theorem read4_any (s : ByteArray) (w : World) (hg : Gd w) (hs : s.size ≤ 1000000000) :
  Calls Tryz.prog 77 #[.string s] w fun e w' => e = .returned (.string ⟨(readQ s.data.toList).toArray⟩) ∧ Below w.heap.size w w' := by
 obtain ⟨P, hP⟩ : ∃ X : ByteArray, X = ⟨(s.data.toList.map plusC).toArray⟩ := ⟨_, rfl⟩
 have hPl : P.data.toList = s.data.toList.map plusC := by rw [hP]
 have hPs : P.size ≤ 1000000000 := by rw [Lib.size_eq, hPl, List.length_map, ← Lib.size_eq]; exact hs
 have HRe : Hid (Calls Tryz.prog 132 #[.string s, .string ⟨#[43]⟩, .string ⟨#[32]⟩] w fun e w' => e = .returned (.string P) ∧ Below w.heap.size w w') := by
  obtain ⟨⟨m, hm⟩, _, _⟩ := hg
  refine (Tryz.strings_ReplaceAll s ⟨#[43]⟩ ⟨#[32]⟩ m w (by omega) hm (by decide) ?_).mono ?_
  ·have := countB4 s 43
   have e1 : (⟨#[32]⟩ : ByteArray).size = 1 := rfl
   rw [e1]; omega
  rintro e w2 ⟨rfl, hb2⟩
  refine ⟨?_, hb2⟩
  rw [show (⟨#[43]⟩ : ByteArray).data.toList = [43] from rfl, show (⟨#[32]⟩ : ByteArray).data.toList = [32] from rfl, repl_plus_all, hP]
 obtain ⟨U, hU⟩ : ∃ X : ByteArray, X = ⟨(unpct P.data.toList).toArray⟩ := ⟨_, rfl⟩
 have hUl : U.data.toList = unpct P.data.toList := by rw [hU]
 have hUs : U.size ≤ 1000000000 := by rw [Lib.size_eq, hUl]; have := unpct_le P.data.toList; rw [← Lib.size_eq] at this; omega
 have HUn := hid (fun w => unpercent_any P w (by omega))
 rw [← hU] at HUn
 have HDe := hid (fun (v : Value) (w : World) (h : SlB w v U.data.toList) => decode_any v U.data.toList w h (by rw [← Lib.size_eq]; omega))
 have HV := hid (show readQ s.data.toList = dec U.data.toList by unfold readQ; rw [hUl, hPl])
 clear hP hPl hU hUl hg
 go_enter Tryz.func77, Tryz.ntmps77
 go_wp2_with fail
 refine HRe.out.mono ?_
 rintro e w1 ⟨rfl, hb1⟩
 have HB1 := hid hb1
 clear hb1
 go_wp2_with fail
 refine (HUn.out _).mono ?_
 rintro e w2 ⟨rfl, hb2⟩
 have HB2 := hid (below2 HB1.out hb2)
 clear hb2
 have hcv := run_bytes_of_string (P := Tryz.prog) w2 9 113 5 U Tryz.underlying9 Tryz.underlying113 Tryz.underlying5
 have hcap := grownCap_ge w2 U.size 0 5
 have hsl := SlB.ofBytes4 w2 5 U (grownCap w2 U.size 0 5) hcap
 have hb0 : Below w2.heap.size w2 (w2.drew.alloc (.cells (bytesRow U (grownCap w2 U.size 0 5)) 5 ((bytesRow U (grownCap w2 U.size 0 5)).size, (bytesRow U (grownCap w2 U.size 0 5)).size + 1))) := (Below.refl _ w2).drew.alloc (Nat.le_refl _) _
 generalize (w2.drew.alloc (.cells (bytesRow U (grownCap w2 U.size 0 5)) 5 ((bytesRow U (grownCap w2 U.size 0 5)).size, (bytesRow U (grownCap w2 U.size 0 5)).size + 1))) = w3 at hcv hsl hb0
 generalize grownCap w2 U.size 0 5 = cap at hcv hcap hsl
 have HSl := hid hsl
 have HB3 := hid (below2 HB2.out hb0)
 clear hsl hb0
 go_wp2_with fail
 clear hcv
 refine (HDe.out _ _ HSl.out).mono ?_
 rintro e w4 ⟨rfl, hb4⟩
 go_wp2
 go_ret
 exact ⟨ret_str' (by rw [HV.out]), below2 HB3.out hb4⟩

theorem infoPair : (Tryz.prog.info? 51).map (fun i => (i.zero, i.size, i.bytes)) = some (some (.agg #[.string ByteArray.empty, .string ByteArray.empty]), 2, 32) := by kernel_rfl

theorem part_le61 (l : List UInt8) : (part 61 l).1.length ≤ l.length ∧ (part 61 l).2.1.length ≤ l.length := part_le 61 l

theorem cutL_le38 : ∀ (l : List UInt8), ∀ p ∈ cutL 38 l, p.length ≤ l.length := by
 intro l
 induction hn : l.length using Nat.strongRecOn generalizing l with
 | ind n ih =>
  intro p hp
  rw [cutL_part] at hp
  split at hp
  ·rename_i h
   have h1 := part_rest 38 l h
   rcases List.mem_cons.1 hp with rfl | hp
   ·have := (part_le 38 l).1; omega
   ·have := ih _ (by omega) _ rfl p hp; omega
  ·rw [List.mem_singleton] at hp
   subst hp
   have := (part_le 38 l).1; omega

def QPost (L : List Hd) (w : World) (e : Ending) (w' : World) : Prop :=
 ∃ v, e = .returned v ∧ w'.ownsRow w.heap.size 51 2 v L.length (cellsH L) ∧ Below w.heap.size w w'

def qTo (C : List (List UInt8)) (k : Nat) : List Hd := ((C.take k).filter fullQ).map pairQ

theorem quer_take {C : List (List UInt8)} {k : Nat} (h : k < C.length) : qTo C (k + 1) = qTo C k ++ (if fullQ C[k] then [pairQ C[k]] else []) := by
 unfold qTo
 rw [List.take_add_one, List.getElem?_eq_getElem h, List.filter_append, List.map_append]
 congr 1
 simp only [Option.toList, List.filter_cons, List.filter_nil]
 split <;> rfl

theorem quer_len (C : List (List UInt8)) (k : Nat) : (qTo C k).length ≤ k := by
 unfold qTo
 rw [List.length_map]
 refine Nat.le_trans (List.length_filter_le _ _) ?_
 rw [List.length_take]; omega

theorem keptC4 {w w' : World} {a : Addr} {v : Value} (h : w.cell? a = some v) (hb : Below w.heap.size w w') : w'.cell? a = some v := (hb.cell (World.block_lt_of_cell? w _ h)).trans h

set_option maxHeartbeats 8000000 in
set_option maxRecDepth 100000 in
theorem query4_any (s : ByteArray) (w : World) (hg : Gd w) (hs : s.size ≤ 100000000) :
  Calls Tryz.prog 29 #[.string s] w (QPost (querQ s.data.toList) w) := by
 obtain ⟨i0, hi, hz0, hz1, hz2⟩ := info3 infoPair
 have HSp := hid (split_any s 38 w hg (by omega))
 have HC1 := hid (show ∀ p ∈ cutL 38 s.data.toList, p.length ≤ 100000000 from fun p hp => by have := cutL_le38 _ p hp; rw [← Lib.size_eq] at this; omega)
 have hC2 : (cutL 38 s.data.toList).length ≤ 100000001 := by have := cutL_cnt 38 s.data.toList; rw [← Lib.size_eq] at this; omega
 unfold querQ TxPost at *
 unfold QPost
 generalize cutL 38 s.data.toList = C at HSp HC1 hC2 ⊢
 obtain ⟨LL, hLL⟩ : ∃ L, (C.filter fullQ).map pairQ = L := ⟨_, rfl⟩
 have HLL := hid (show ∀ k, C.length ≤ k → qTo C k = LL from fun k h => by unfold qTo; rw [List.take_of_length_le h, hLL])
 rw [hLL]
 clear hLL
 have HG := hid hg
 clear hg
 go_enter Tryz.func29, Tryz.ntmps29
 go_wp2_with fail
 refine HSp.out.mono ?_
 rintro e w1 ⟨g, cp, rfl, hown, hb1⟩
 have HT := hid (own_txt' hown)
 have HB1 := hid hb1
 obtain ⟨n, hn⟩ : ∃ n, C.length = n := ⟨_, rfl⟩
 have HN := hid hn
 rw [hn] at hC2 ⊢
 have HO0 := hid (show w1.ownsRow w1.heap.size 51 2 (.slice none 0 0) 0 [] from World.ownsRow_nil _ _ _ _)
 clear hown hb1 hn HSp
 go_wp2_with fail
 go_loopw [3, 12] (fun v3 v12 wr => ∃ (k : Nat), k ≤ n ∧ v12 = .int .i64 k ∧ wr.ownsRow w1.heap.size 51 2 v3 (qTo C k).length (cellsH (qTo C k)) ∧ Below w1.heap.size w1 wr) (fun v3 v12 _ => n - (intOf v12).toNat)
 case atStart => exact ⟨0, Nat.zero_le _, rfl, HO0.out, Below.refl _ _⟩
 case round =>
  obtain ⟨k, hk, rfl, hown, hb1w⟩ := hrel
  have hbw := below2 HB1.out hb1w
  have HO := hid hown
  have HBw := hid hbw
  have HB1w := hid hb1w
  have hwr := hbw.size
  have hlen := quer_len C k
  clear hown hbw hb1w
  by_cases hlt : k < n
  ·have hkC : k < C.length := by have := HN.out; omega
   obtain ⟨ac', cc', eac, q1, q2, hcell⟩ := HT.out.view
   injection eac with eac1 eac2 eac3
   clear eac2 eac3
   subst eac1
   obtain ⟨bc, oc, eb, hcl⟩ := hcell k hkC
   injection eb with eb
   injection eb with eb1 eb2 eb3
   subst eb1 eb2
   rw [Nat.zero_add] at hcl
   obtain ⟨A, hA⟩ : ∃ A : ByteArray, A = ⟨C[k].toArray⟩ := ⟨_, rfl⟩
   rw [← hA] at hcl
   have hAl : A.data.toList = C[k] := by rw [hA]
   have hAs : A.size ≤ 100000000 := by rw [Lib.size_eq, hAl]; exact HC1.out _ (List.getElem_mem hkC)
   have q0 := keptC4 hcl HB1w.out
   have hin : (k : Int) < (n : Int) := by omega
   have HTk := hid (quer_take hkC)
   rw [← hAl] at HTk
   obtain ⟨em, hem⟩ : ∃ q, (A.toList == []) = q := ⟨_, rfl⟩
   have HFl := hid (show fullQ A.data.toList = !em by rw [← hem, Lib.toList_data]; rfl)
   rw [HFl.out] at HTk
   clear hcl hcell hA q1 q2
   cases em with
   | true =>
    rw [if_neg (by decide), List.append_nil] at HTk
    clear hAl hAs hkC
    go_wp2_with fail
    go_roundw
    case rel =>
     first
      | exact ⟨k + 1, by omega, by go_num, by rw [HTk.out]; exact HO.out, HB1w.out⟩
      | ((repeat apply Exists.intro); refine ⟨?_, rfl⟩; exact ⟨k + 1, by omega, by go_num, by rw [HTk.out]; exact HO.out, HB1w.out⟩)
      | ((repeat apply Exists.intro); exact ⟨⟨k + 1, by omega, by go_num, by rw [HTk.out]; exact HO.out, HB1w.out⟩, rfl⟩)
    case measure => simp [intOf]; omega
   | false =>
    rw [if_pos (by decide)] at HTk
    have hpl := part_le61 A.data.toList
    obtain ⟨E1, hE1⟩ : ∃ X : ByteArray, X = ⟨(part 61 A.data.toList).1.toArray⟩ := ⟨_, rfl⟩
    obtain ⟨E2, hE2⟩ : ∃ X : ByteArray, X = ⟨(part 61 A.data.toList).2.1.toArray⟩ := ⟨_, rfl⟩
    obtain ⟨E3, hE3⟩ : ∃ q, (part 61 A.data.toList).2.2 = q := ⟨_, rfl⟩
    have hE1s : E1.size ≤ 100000000 := by rw [hE1, Lib.size_eq]; rw [← Lib.size_eq] at hpl; exact Nat.le_trans hpl.1 hAs
    have hE2s : E2.size ≤ 100000000 := by rw [hE2, Lib.size_eq]; rw [← Lib.size_eq] at hpl; exact Nat.le_trans hpl.2 hAs
    have HCut : Hid (∀ w : World, Gd w → Calls Tryz.prog 76 #[.string A, .string ⟨#[61]⟩] w fun e w' => e = .returned (.tuple #[.string E1, .string E2, .bool E3]) ∧ Below w.heap.size w w') := fun w hg => by
     have := cut_any A ⟨#[61]⟩ w hg (by omega)
     rw [show (⟨#[61]⟩ : ByteArray).data.toList = [61] from rfl, cut_part, ← hE1, ← hE2, hE3] at this
     exact this
    obtain ⟨R1, hR1⟩ : ∃ X : ByteArray, X = ⟨(readQ E1.data.toList).toArray⟩ := ⟨_, rfl⟩
    obtain ⟨R2, hR2⟩ : ∃ X : ByteArray, X = ⟨(readQ E2.data.toList).toArray⟩ := ⟨_, rfl⟩
    have HR1 := hid (fun (w : World) (hg : Gd w) => read4_any E1 w hg (by omega))
    have HR2 := hid (fun (w : World) (hg : Gd w) => read4_any E2 w hg (by omega))
    rw [← hR1] at HR1
    rw [← hR2] at HR2
    have HPr := hid (show cellsH [pairQ A.data.toList] = [.string R1, .string R2] by rw [hR1, hR2, hE1, hE2]; rfl)
    clear hpl hE1 hE2 hE3 hR1 hR2 hAl hAs hkC
    go_wp2_with fail
    refine (HCut.out _ (HG.out.kept HBw.out)).mono ?_
    rintro e w2 ⟨rfl, hb2⟩
    have HB2 := hid (below2 HBw.out hb2)
    have HB12 := hid (below2 HB1w.out hb2)
    have HO2 := hid (own_same HO.out hb2)
    clear hb2 q0
    go_wp2_with fail
    refine (HR1.out _ (HG.out.kept HB2.out)).mono ?_
    rintro e w3 ⟨rfl, hb3⟩
    have HB3 := hid (below2 HB2.out hb3)
    have HB13 := hid (below2 HB12.out hb3)
    have HO3 := hid (own_same HO2.out hb3)
    clear hb3
    go_wp2_with fail
    refine (HR2.out _ (HG.out.kept HB3.out)).mono ?_
    rintro e w4 ⟨rfl, hb4⟩
    have hbw4 := below2 HB3.out hb4
    have HB14 := hid (below2 HB13.out hb4)
    have HO4 := hid (own_same HO3.out hb4)
    have hw4 := hbw4.size
    have hw14 := HB14.out.size
    clear hb4
    go_wp2_with (at_builtin; go_must (refine wpList_append_own _ rfl _ _ 48 rfl w1.heap.size 51 i0 _ 2 32 Tryz.underlying48 hi hz0 hz1 hz2 rfl (by decide) _ _ _ rfl (HO4.out.alloc _) ⟨w4.heap.size, 0, none⟩ 1 1 [.string R1, .string R2] rfl rfl ?c1 ?c2 ?c3 ?c4 ?c5 ?_))
    case c1 =>
     intro q u hq
     match q, hq with
     | 0, hq => simp at hq; subst hq; simp [Addr.add]
     | 1, hq => simp at hq; subst hq; simp [Addr.add]
    case c2 => intro u hu; simp at hu; rcases hu with rfl | rfl <;> rfl
    case c3 => unfold maxLen; omega
    case c4 => omega
    case c5 => simp; omega
    intro v' w5 hown' hgrow hnil
    have HO5 := hid hown'
    have HB15 := hid (show Below w1.heap.size w1 w5 from (HB14.out.alloc hw14 _).grown hgrow (by simp; omega) (fun g hg => (HO4.out.lt g hg).1))
    clear hown' hgrow hnil
    go_wp2
    go_roundw
    case rel =>
     first
      | exact ⟨k + 1, by omega, by go_num, by rw [HTk.out, cellsH_app, List.length_append, HPr.out]; exact HO5.out, HB15.out⟩
      | ((repeat apply Exists.intro); refine ⟨?_, rfl⟩; exact ⟨k + 1, by omega, by go_num, by rw [HTk.out, cellsH_app, List.length_append, HPr.out]; exact HO5.out, HB15.out⟩)
    case measure => simp [intOf]; omega
  ·have hge : ¬ (k : Int) < (n : Int) := by omega
   rw [HLL.out k (by have := HN.out; omega)] at HO
   go_wp2_with fail
   go_ret
   exact ⟨_, rfl, ownsRow_lower HO.out HB1.out.size, HBw.out⟩

end Go.Proofs.YtgoefeaopegdoaaGreatDoor

namespace Go.Proofs.YtgoefeaopegdoaaGreatDoor
open Go.RowKit

def aheadO (h : List UInt8) : Nat := (cutL 46 h).length - sufV h - 1

def siteV (o : Org) : List UInt8 := if o.opq then [] else if Lib.hasPrefix o.host [91] || numO o.host then o.host else Lib.join ((cutL 46 o.host).drop (aheadO o.host)) [46]

theorem TxAt.drop11 {w : World} {g cap n : Nat} {L : List (List UInt8)} (h : TxAt w (.slice (some ⟨g, 0, none⟩) n cap) L) (k : Nat) (hk : k ≤ L.length) : TxAt w (.slice (some ⟨g, k, none⟩) (n - k) (cap - k)) (L.drop k) := by
 obtain ⟨a, c, e, h1, h2, h3⟩ := h
 injection e with e1 e2 e3
 subst e1 e2 e3
 refine ⟨_, _, by rw [List.length_drop], by rw [List.length_drop]; omega, by omega, fun j hj => ?_⟩
 rw [List.length_drop] at hj
 obtain ⟨b, off, hb, hc⟩ := h3 (k + j) (by omega)
 injection hb with hb
 injection hb with hb1 hb2 hb3
 subst hb1 hb2
 refine ⟨g, k, rfl, ?_⟩
 rw [List.getElem_drop]
 rw [Nat.zero_add] at hc
 exact hc

set_option maxHeartbeats 4000000 in
set_option maxRecDepth 20000 in
theorem site_any (o : Org) (w : World) (hg : Gd w) (hh : o.host.length ≤ 1000000) (hj : (cutL 46 o.host).length ≤ 1000001 ∧ (Lib.join ((cutL 46 o.host).drop (aheadO o.host)) [46]).length ≤ 140737488355328) :
  Calls Tryz.prog 85 #[orgVal o] w fun e w' => e = .returned (.string ⟨(siteV o).toArray⟩) ∧ Below w.heap.size w w' := by
 obtain ⟨sa, ah, ap, ao⟩ := o
 obtain ⟨AS, rfl⟩ : ∃ X : ByteArray, sa = X.data.toList := ⟨⟨sa.toArray⟩, rfl⟩
 obtain ⟨AH, rfl⟩ : ∃ X : ByteArray, ah = X.data.toList := ⟨⟨ah.toArray⟩, rfl⟩
 rw [show orgVal ⟨AS.data.toList, AH.data.toList, ap, ao⟩ = .agg #[.string AS, .string AH, .int .i64 ap, .bool ao] from rfl]
 have hhs : AH.size ≤ 1000000 := by rw [Lib.size_eq]; exact hh
 obtain ⟨W, hW⟩ : ∃ W, (w.alloc (.cells #[.string AS, .string AH, .int .i64 ap, .bool ao] 28)) = W := ⟨_, rfl⟩
 have hbW : Below w.heap.size w W := by rw [← hW]; exact (Below.refl _ w).alloc (Nat.le_refl _) _
 have hrow : W.heap[w.heap.size]? = some (.cells #[.string AS, .string AH, .int .i64 ap, .bool ao] 28 (0, 0)) := by rw [← hW]; exact heap_alloc_new w _
 have h1 : W.cell? ⟨w.heap.size, 1, none⟩ = some (.string AH) := by rw [Lib.cell_of_heap hrow]; rfl
 have h3 : W.cell? ⟨w.heap.size, 3, none⟩ = some (.bool ao) := by rw [Lib.cell_of_heap hrow]; rfl
 have HK := hid (show ∀ Z, Below W.heap.size W Z → Z.cell? ⟨w.heap.size, 1, none⟩ = some (.string AH) from fun Z hZ => keptC h1 hZ)
 have HGW := hid (fun (X : World) (hX : Below W.heap.size W X) => (hg.kept hbW).kept hX)
 have HBW := hid hbW
 have HPr := hid (fun w => Tryz.strings_HasPrefix AH ⟨#[91]⟩ w)
 have HNu := hid (fun w => numeric_any AH w (by omega))
 have HSp := hid (fun (X : World) (hX : Below W.heap.size W X) => split_any AH 46 X ((hg.kept hbW).kept hX) (by omega))
 have HSu := hid (fun w => suffix_any AH w (by omega))
 obtain ⟨q1, e1⟩ : ∃ q, Lib.hasPrefix AH.data.toList [91] = q := ⟨_, rfl⟩
 obtain ⟨q2, e2⟩ : ∃ q, numO AH.data.toList = q := ⟨_, rfl⟩
 have HPr' : Hid (∀ w, Calls Tryz.prog 104 #[.string AH, .string ⟨#[91]⟩] w fun e w' => e = .returned (.bool q1) ∧ w' = w) := fun w => by rw [← e1]; exact HPr.out w
 rw [e2] at HNu
 have HV := hid (show siteV ⟨AS.data.toList, AH.data.toList, ap, ao⟩ = if ao then [] else if q1 || q2 then AH.data.toList else Lib.join ((cutL 46 AH.data.toList).drop (aheadO AH.data.toList)) [46] by unfold siteV; rw [← e1, ← e2])
 obtain ⟨V, hV⟩ : ∃ V, siteV ⟨AS.data.toList, AH.data.toList, ap, ao⟩ = V := ⟨_, rfl⟩
 rw [hV] at HV ⊢
 have HJ := hid hj
 obtain ⟨L, hL⟩ : ∃ L, cutL 46 AH.data.toList = L := ⟨_, rfl⟩
 have HL1 := hid (show 1 ≤ L.length by rw [← hL]; exact List.length_pos_iff.2 (cutL_ne 46 _))
 obtain ⟨s, hs⟩ : ∃ s, sufV AH.data.toList = s := ⟨_, rfl⟩
 have HA := hid (show aheadO AH.data.toList = L.length - s - 1 by unfold aheadO; rw [hL, hs])
 dsimp only at HJ
 rw [HA.out, hL] at HV HJ
 unfold TxPost at HSp
 rw [hL] at HSp
 rw [hs] at HSu
 have hs2 : 1 ≤ s ∧ s ≤ 2 := by rw [← hs]; unfold sufV; split <;> omega
 clear HPr hV hL hs e1 e2 hg hh hj hbW hrow HA
 cases ao with
 | true =>
  go_enter Tryz.func85, Tryz.ntmps85
  go_wp2
  go_ret
  exact ⟨ret_str' (by rw [HV.out]; rfl), HBW.out⟩
 | false =>
  go_enter Tryz.func85, Tryz.ntmps85
  go_wp2_with fail
  refine (HPr'.out _).mono ?_
  rintro e wz ⟨rfl, hwz⟩
  rw [hwz]
  clear hwz
  cases q1 with
  | true =>
   go_wp2
   go_ret
   exact ⟨ret_str' (by rw [HV.out]; rfl), HBW.out⟩
  | false =>
   go_wp2_with fail
   refine (HNu.out _).mono ?_
   rintro e w2 ⟨rfl, hb2⟩
   have k1 := HK.out _ hb2
   have HB2 := hid hb2
   clear hb2
   cases q2 with
   | true =>
    go_wp2
    go_ret
    exact ⟨ret_str' (by rw [HV.out]; rfl), below2 HBW.out HB2.out⟩
   | false =>
    go_wp2_with fail
    refine (HSp.out _ HB2.out).mono ?_
    rintro e w3 ⟨g, cap, rfl, hown, hb3⟩
    have HB3 := hid (below2 HB2.out hb3)
    have HT := hid (own_txt' hown)
    have k2 := HK.out _ HB3.out
    obtain ⟨a', c', he, hc1, hc2, -⟩ := HT.out.view
    injection he with he1 he2 he3
    rw [← he3] at hc1 hc2
    clear hb3 hown k1 he1 he2 he3
    obtain ⟨n, hn⟩ : ∃ n, L.length = n := ⟨_, rfl⟩
    rw [hn] at hc1 HV HJ HT ⊢
    have hn9 := HJ.out.1
    go_wp2_with fail
    refine (HSu.out _).mono ?_
    rintro e w4 ⟨rfl, hw4⟩
    rw [← hw4]
    clear hw4
    obtain ⟨k, hk⟩ : ∃ k, n - s - 1 = k := ⟨_, rfl⟩
    rw [hk] at HV HJ
    have hkn : k ≤ n := by omega
    have hmx : max ((n : Int) - (s : Int) - 1) 0 = (k : Int) := by omega
    have HD := hid (fun (h : k ≤ L.length) => HT.out.drop11 k h)
    have hn1 := HL1.out
    rw [hn] at hn1
    have hkc : k < cap := by omega
    have hkc1 : ¬ cap = k := by omega
    have hkc2 : ¬ cap - k = 0 := by omega
    have HJo := hid (join5_any _ _ ⟨#[46]⟩ w3 (HD.out (by omega)) (by rw [List.length_drop]; omega) HJ.out.2)
    clear hn1
    go_wp2_with fail
    refine HJo.out.mono ?_
    rintro e w5 ⟨rfl, hb5⟩
    go_wp2
    go_ret
    exact ⟨ret_str' (by rw [HV.out]; rfl), below2 HBW.out (below2 HB3.out hb5)⟩

end Go.Proofs.YtgoefeaopegdoaaGreatDoor

namespace Go.Proofs.YtgoefeaopegdoaaGreatDoor
open Go.RowKit

def kO1 : Org := ⟨sHttp, [104], 81, false⟩

def kO3 : Org := ⟨sHttps, [97, 46, 98, 46, 99, 111, 46, 117, 107], 443, false⟩

def kQ : List Hd := [⟨[97], [49]⟩, ⟨[98, 32, 99], []⟩, ⟨[], [65]⟩]

theorem kn4_1 : ofT [104, 116, 116, 112, 58, 47, 47, 104, 58, 56, 49, 47] = kO1 := by decide +kernel

theorem kn4_2 : ofT [100, 97, 116, 97, 58, 97] = Org.none := by decide +kernel

theorem kn4_3 : ofT [104, 116, 116, 112, 115, 58, 47, 47, 97, 46, 98, 46, 99, 111, 46, 117, 107, 47] = kO3 := by decide +kernel

theorem kn4_q : (querQ [97, 61, 49, 38, 98, 43, 99, 38, 38, 61, 37, 52, 49]).map (fun h => (h.name, h.value)) = kQ.map (fun h => (h.name, h.value)) := by decide +kernel

theorem hd_map {a b : List Hd} (h : a.map (fun h => (h.name, h.value)) = b.map (fun h => (h.name, h.value))) : a = b := by
 induction a generalizing b with
 | nil => cases b with
  | nil => rfl
  | cons y b => simp at h
 | cons x a ih => cases b with
  | nil => simp at h
  | cons y b =>
   simp only [List.map_cons, List.cons.injEq, Prod.mk.injEq] at h
   obtain ⟨⟨h1, h2⟩, h3⟩ := h
   rw [ih h3]
   cases x; cases y
   simp_all

theorem kn4_t1 : textO kO1 = [104, 116, 116, 112, 58, 47, 47, 104, 58, 56, 49] := by decide +kernel

theorem kn4_t2 : textO Org.none = [110, 117, 108, 108] := by decide +kernel

theorem kn4_s3 : siteV kO3 = [98, 46, 99, 111, 46, 117, 107] := by decide +kernel

theorem of4_at (S : ByteArray) (O : Org) (l : List UInt8) (hl : S.data.toList = l) (h : ofT l = O) (hs : S.size ≤ 9223372036854775807) : ∀ w, Gd w → Calls Tryz.prog 35 #[.string S] w fun e w' => e = .returned (orgVal O) ∧ Below w.heap.size w w' := fun w hg => by
 have := of4_any S w hg hs
 rw [hl, h] at this
 exact this

theorem text4_at (O : Org) (X : ByteArray) (l : List UInt8) (h : textO O = l) (hX : X = ⟨l.toArray⟩) (hs : O.scheme.length ≤ 1000000 ∧ O.host.length ≤ 1000000 ∧ (O.opq = false → 0 ≤ O.port ∧ O.port ≤ 65535)) : ∀ w, Gd w → Calls Tryz.prog 73 #[orgVal O] w fun e w' => e = .returned (.string X) ∧ Below w.heap.size w w' := fun w hg => by
 have := textO_any O w hg hs.1 hs.2.1 hs.2.2
 rw [h, ← hX] at this
 exact this

theorem site4_at (O : Org) (X : ByteArray) (l : List UInt8) (h : siteV O = l) (hX : X = ⟨l.toArray⟩) (hs : O.host.length ≤ 1000000 ∧ (cutL 46 O.host).length ≤ 1000001 ∧ (Lib.join ((cutL 46 O.host).drop (aheadO O.host)) [46]).length ≤ 140737488355328) : ∀ w, Gd w → Calls Tryz.prog 85 #[orgVal O] w fun e w' => e = .returned (.string X) ∧ Below w.heap.size w w' := fun w hg => by
 have := site_any O w hg hs.1 hs.2
 rw [h, ← hX] at this
 exact this

theorem lit_beq (X : ByteArray) (l : List UInt8) (hX : X = ⟨l.toArray⟩) : (X.toList == l) = true := by
 rw [hX, Lib.toList_data]
 exact beq_self_eq_true _

set_option maxHeartbeats 8000000 in
set_option maxRecDepth 100000 in
theorem known4_any (w : World) (hg : Gd w) : Calls Tryz.prog 33 #[] w fun e w' => e = .returned (.bool true) ∧ Below w.heap.size w w' := by
 have HG := hid hg
 have HQ := hid (query4_any ⟨#[97, 61, 49, 38, 98, 43, 99, 38, 38, 61, 37, 52, 49]⟩ w hg (by decide))
 rw [show (⟨#[97, 61, 49, 38, 98, 43, 99, 38, 38, 61, 37, 52, 49]⟩ : ByteArray).data.toList = [97, 61, 49, 38, 98, 43, 99, 38, 38, 61, 37, 52, 49] from rfl, hd_map kn4_q] at HQ
 unfold QPost at HQ
 have H1 := hid (of4_at ⟨#[104, 116, 116, 112, 58, 47, 47, 104, 58, 56, 49, 47]⟩ _ _ rfl kn4_1 (by decide))
 have H2 := hid (of4_at ⟨#[100, 97, 116, 97, 58, 97]⟩ _ _ rfl kn4_2 (by decide))
 have H3 := hid (of4_at ⟨#[104, 116, 116, 112, 115, 58, 47, 47, 97, 46, 98, 46, 99, 111, 46, 117, 107, 47]⟩ _ _ rfl kn4_3 (by decide))
 obtain ⟨X1, hX1⟩ : ∃ X : ByteArray, X = ⟨#[104, 116, 116, 112, 58, 47, 47, 104, 58, 56, 49]⟩ := ⟨_, rfl⟩
 obtain ⟨X2, hX2⟩ : ∃ X : ByteArray, X = ⟨#[110, 117, 108, 108]⟩ := ⟨_, rfl⟩
 obtain ⟨X3, hX3⟩ : ∃ X : ByteArray, X = ⟨#[98, 46, 99, 111, 46, 117, 107]⟩ := ⟨_, rfl⟩
 have T1 := hid (text4_at _ X1 _ kn4_t1 hX1 (by decide))
 have T2 := hid (text4_at _ X2 _ kn4_t2 hX2 (by decide))
 have S3 := hid (site4_at _ X3 _ kn4_s3 hX3 (by decide +kernel))
 have b1 := lit_beq X1 _ hX1
 have b2 := lit_beq X2 _ hX2
 have b3 := lit_beq X3 _ hX3
 clear hX1 hX2 hX3 hg
 generalize orgVal kO1 = V1 at H1 T1
 generalize orgVal Org.none = V2 at H2 T2
 generalize orgVal kO3 = V3 at H3 S3
 go_enter Tryz.func33, Tryz.ntmps33
 go_wp2_with fail
 refine HQ.out.mono ?_
 rintro e w0 ⟨v, rfl, hown, hb0⟩
 have HH := hid (own_hd hown)
 obtain ⟨a, cp, rfl, hc1, hc2, hcell⟩ := HH.out.view
 obtain ⟨g, off, rfl, c00, c01⟩ := hcell 0 (by decide)
 obtain ⟨g', off', eg, c20, c21⟩ := hcell 2 (by decide)
 injection eg with eg
 injection eg with eg1 eg2 eg3
 subst eg1 eg2
 have HB0 := hid hb0
 have HG0 := hid (HG.out.kept hb0)
 have HC := hid (show ∀ (X : World), Below w0.heap.size w0 X → X.cell? ⟨g, off, none⟩ = some (.string ⟨#[97]⟩) ∧ X.cell? ⟨g, off + 1, none⟩ = some (.string ⟨#[49]⟩) ∧ X.cell? ⟨g, off + 4, none⟩ = some (.string ⟨#[]⟩) ∧ X.cell? ⟨g, off + 4 + 1, none⟩ = some (.string ⟨#[65]⟩) from fun (X : World) (h : Below w0.heap.size w0 X) => And.intro (keptC4 c00 h) (And.intro (keptC4 c01 h) (And.intro (keptC4 c20 h) (keptC4 c21 h))))
 rw [show kQ.length = 3 from rfl] at hc1 ⊢
 clear hown hb0 hcell c00 c01 c20 c21 HQ
 go_wp2_with fail
 refine (H1.out _ HG0.out).mono ?_
 rintro e w1 ⟨rfl, hb1⟩
 have HG1 := hid (HG0.out.kept hb1)
 have HB1 := hid (below2 HB0.out hb1)
 have HD1 := hid (hb1)
 clear hb1
 go_wp2_with fail
 refine (T1.out _ HG1.out).mono ?_
 rintro e w2 ⟨rfl, hb2⟩
 have HG2 := hid (HG1.out.kept hb2)
 have HB2 := hid (below2 HB1.out hb2)
 have HD2 := hid (below2 HD1.out hb2)
 clear hb2
 go_wp2_with fail
 refine (H2.out _ HG2.out).mono ?_
 rintro e w3 ⟨rfl, hb3⟩
 have HG3 := hid (HG2.out.kept hb3)
 have HB3 := hid (below2 HB2.out hb3)
 have HD3 := hid (below2 HD2.out hb3)
 clear hb3
 go_wp2_with fail
 refine (T2.out _ HG3.out).mono ?_
 rintro e w4 ⟨rfl, hb4⟩
 have HG4 := hid (HG3.out.kept hb4)
 have HB4 := hid (below2 HB3.out hb4)
 have HD4 := hid (below2 HD3.out hb4)
 clear hb4
 go_wp2_with fail
 refine (H3.out _ HG4.out).mono ?_
 rintro e w5 ⟨rfl, hb5⟩
 have HG5 := hid (HG4.out.kept hb5)
 have HB5 := hid (below2 HB4.out hb5)
 have HD5 := hid (below2 HD4.out hb5)
 clear hb5
 go_wp2_with fail
 refine (S3.out _ HG5.out).mono ?_
 rintro e w6 ⟨rfl, hb6⟩
 have HG6 := hid (HG5.out.kept hb6)
 have HB6 := hid (below2 HB5.out hb6)
 have HD6 := hid (below2 HD5.out hb6)
 clear hb6
 obtain ⟨k00, k01, k20, k21⟩ := HC.out _ HD6.out
 go_wp2_with fail
 go_ret
 exact ⟨rfl, HB6.out⟩

end Go.Proofs.YtgoefeaopegdoaaGreatDoor

namespace Go.Proofs.YtgoefeaopegdoaaGreatDoor
open Go.RowKit

def MarksKept (b : Nat) (w w' : World) : Prop := ∀ k o, w.heap[k]? = some o → k ≠ b → (∀ c, o ≠ .cells c 5 (0, 0)) → w'.heap[k]? = some o

theorem MarksKept.refl (b : Nat) (w : World) : MarksKept b w w := fun _ _ h _ _ => h

theorem MarksKept.trans {b : Nat} {w w1 w2 : World} (h : MarksKept b w w1) (h2 : MarksKept b w1 w2) : MarksKept b w w2 := fun k o hk hb ho => h2 k o (h k o hk hb ho) hb ho

theorem MarksKept.set {b : Nat} {w w1 : World} (h : MarksKept b w w1) (j : Nat) (x : Value) : MarksKept b w (w1.setCell ⟨b, j, none⟩ x) := fun k o hk hb ho => by
 have := h k o hk hb ho
 rw [← this]
 exact heap_setCell_other _ _ _ _ hb

theorem copyCheck_n (B b : Nat) (bs : List Value) (w : World) (h : Lib.IsBuilder 115 5 B b bs w) :
  Calls Tryz.prog 135 #[.pointer (some ⟨b, 0, none⟩)] w fun e w' => e = .returned (.tuple #[]) ∧ (Lib.BuilderAt 115 5 B b (.pointer (some ⟨b, 0, none⟩)) bs w' ∧ Below B w w' ∧ MarksKept b w w') := by
 rcases h with h | h
 ·refine (copyCheck_fresh b w h.cell0 h.shape h.frozen0).mono ?_
  rintro e w' ⟨rfl, rfl⟩
  exact ⟨rfl, h.used _, (Below.refl B w).setCell (p := ⟨b, 0, none⟩) h.1 _, (MarksKept.refl _ w).set 0 _⟩
 ·refine (copyCheck_used b w h.cell0).mono ?_
  rintro e w' ⟨rfl, rfl⟩
  exact ⟨rfl, h, Below.refl B _, MarksKept.refl _ _⟩

set_option maxHeartbeats 2000000 in
set_option maxRecDepth 100000 in
theorem writeByte_n (B b : Nat) (bs : List Value) (c : Int) (w : World) (h : Lib.IsBuilder 115 5 B b bs w) (hlen : bs.length + 1 ≤ 140737488355328) (hBw : B ≤ w.heap.size) :
  Calls Tryz.prog 81 #[.pointer (some ⟨b, 0, none⟩), .int .u8 c] w fun e w' => e = .returned .nilIface ∧ (Lib.BuilderAt 115 5 B b (.pointer (some ⟨b, 0, none⟩)) (bs ++ [.int .u8 c]) w' ∧ Below B w w' ∧ MarksKept b w w') := by
 obtain ⟨i0, hi, hz0, hz1, hz2⟩ := info_parts infoByte
 go_enter Tryz.func81, Tryz.ntmps81
 go_wp2_with (go_at_call 135; refine (copyCheck_n B b bs _ h).mono ?_)
 rintro e w1 ⟨rfl, h1, hb1, hk1⟩
 obtain ⟨hB, v, hbk, hown, hne⟩ := h1
 have c0 : w1.cell? ⟨b, 0, none⟩ = some (.pointer (some ⟨b, 0, none⟩)) := by rw [Lib.cell_of_heap hbk]; rfl
 have c1 : w1.cell? ⟨b, 1, none⟩ = some v := by rw [Lib.cell_of_heap hbk]; rfl
 go_wp2_with (at_builtin; refine wpList_append_own _ rfl _ _ 113 rfl B 5 i0 (.int .u8 0) 1 1 Tryz.underlying113 hi hz0 hz1 hz2 rfl (by decide) _ _ _ rfl (hown.alloc _) ⟨w1.heap.size, 0, none⟩ 1 1 [.int .u8 c] rfl rfl ?c1 ?c2 ?c3 ?c4 ?c5 ?_)
 case c1 =>
  intro j u hj
  match j, hj with
  | 0, hj => simp at hj; subst hj; simp [Addr.add]
 case c2 => intro u hu; simp at hu; subst hu; rfl
 case c3 => unfold maxLen; omega
 case c4 => omega
 case c5 => have := hb1.size; simp; omega
 intro v' w2 hown' hgrow _
 have hlt : b < w1.heap.size := by
  rcases Nat.lt_or_ge b w1.heap.size with h' | h'
  ·exact h'
  ·simp [Array.getElem?_eq_none h'] at hbk
 have hb2 : w2.heap[b]? = some (.cells #[.pointer (some ⟨b, 0, none⟩), v] 115 (0, 0)) := by
  rw [hgrow.block b (by simp; omega) (fun e => hne e.symm), Lib.alloc_old w1 _ b hlt]
  exact hbk
 have d0 : w2.cell? ⟨b, 0, none⟩ = some (.pointer (some ⟨b, 0, none⟩)) := by rw [Lib.cell_of_heap hb2]; rfl
 have d1 : w2.cell? ⟨b, 1, none⟩ = some v := by rw [Lib.cell_of_heap hb2]; rfl
 have f1 : w2.frozen? ⟨b, 1, none⟩ = false := Lib.frozen_of_heap hb2 1
 obtain ⟨g, cap, rfl⟩ : ∃ g cap, v' = .slice (some ⟨g, 0, none⟩) (bs.length + 1) cap := by
  rcases hown'.2 with ⟨_, h0⟩ | ⟨g, cap, cur, hv, _⟩
  ·omega
  ·exact ⟨g, cap, hv⟩
 have hk2 : MarksKept b w1 w2 := fun k o hk hkb ho => by
  have hkl : k < w1.heap.size := by
   rcases Nat.lt_or_ge k w1.heap.size with h' | h'
   ·exact h'
   ·simp [Array.getElem?_eq_none h'] at hk
  have hko : v.ownBlock ≠ some k := fun e => by
   obtain ⟨cur, hc⟩ := ownsRow_kind hown k e
   rw [hk] at hc
   exact ho cur (Option.some.inj hc)
  rw [hgrow.block k (by simp; omega) (fun e => hko e.symm), Lib.alloc_old w1 _ k hkl]
  exact hk
 go_wp2
 go_ret
 refine ⟨rfl, ?_, ?_, (hk1.trans hk2).set 1 _⟩
 ·exact Lib.BuilderAt.put (T := 115) (e := 5) hB hb2 (bs' := bs ++ [.int .u8 c]) (by simpa using hown') (by decide)
 ·exact ((hb1.alloc (by have := hb1.size; omega) _).grown hgrow (by have := hb1.size; simp; omega) (fun k hk => (hown.lt k hk).1)).setCell (p := ⟨b, 1, none⟩) hB _

end Go.Proofs.YtgoefeaopegdoaaGreatDoor
