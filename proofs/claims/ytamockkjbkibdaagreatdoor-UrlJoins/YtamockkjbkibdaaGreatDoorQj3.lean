/-
  Walks and plain facts that this claim leans on, put together out of 5 texts: Erb, Yk, Xa, Xb, Ym.
-/
import Derived.Test.YtamockkjbkibdaaGreatDoorProg
import Derived.Test.YtamockkjbkibdaaGreatDoorQa1
import Derived.Test.YtamockkjbkibdaaGreatDoorQa2
import Derived.Test.YtamockkjbkibdaaGreatDoorQa3
import Derived.Test.YtamockkjbkibdaaGreatDoorQa4
import Derived.Test.YtamockkjbkibdaaGreatDoorQa5
import Derived.Test.YtamockkjbkibdaaGreatDoorQa6
import Derived.Test.YtamockkjbkibdaaGreatDoorQa7
import Derived.Test.YtamockkjbkibdaaGreatDoorQa8
import Derived.Test.YtamockkjbkibdaaGreatDoorQa9
import Derived.Test.YtamockkjbkibdaaGreatDoorQa10
import Derived.Test.YtamockkjbkibdaaGreatDoorQa11
import Derived.Test.YtamockkjbkibdaaGreatDoorQa12
import Derived.Test.YtamockkjbkibdaaGreatDoorQa13
import Derived.Test.YtamockkjbkibdaaGreatDoorQa14
import Derived.Test.YtamockkjbkibdaaGreatDoorQa15
import Derived.Test.YtamockkjbkibdaaGreatDoorQa16
import Derived.Test.YtamockkjbkibdaaGreatDoorQa17
import Derived.Test.YtamockkjbkibdaaGreatDoorQa18
import Derived.Test.YtamockkjbkibdaaGreatDoorQa19
import Derived.Test.YtamockkjbkibdaaGreatDoorQa20
import Derived.Test.YtamockkjbkibdaaGreatDoorQa21
import Derived.Test.YtamockkjbkibdaaGreatDoorQa22
import Derived.Test.YtamockkjbkibdaaGreatDoorQa23
import Derived.Test.YtamockkjbkibdaaGreatDoorQa24
import Derived.Test.YtamockkjbkibdaaGreatDoorQa25
import Derived.Test.YtamockkjbkibdaaGreatDoorQa26
import Derived.Test.YtamockkjbkibdaaGreatDoorQa27
import Derived.Test.YtamockkjbkibdaaGreatDoorQa28
import Derived.Test.YtamockkjbkibdaaGreatDoorQj1
import Derived.Test.YtamockkjbkibdaaGreatDoorQj2
import Derived.Deep.Cut
import Derived.Deep.QuietTactic
import Derived.BigQuiet
import Derived.BigRegion
import Derived.Deep.RegionHeld
import Derived.Lib.IndexMore
import Derived.Lib.Join
import Derived.Lib.LastIndexByte
import Derived.WalkKit
import Derived.Lib.Strings
import Derived.Lib.UnsafeStr
import Derived.Laws.IdiomStrings
import Derived.Laws.AppendOwn
import Derived.Laws.BitsAllLaws
import Derived.Lib.Bytealg
import Derived.Lib.BufferMore
import Derived.LoopN
import Derived.RegionTactic
import Derived.Deep.RegionWith
import Derived.Laws.OwnMore
import Derived.Shelf.Strings.Builder1
import Derived.Shelf.Strings.Builder2
import Derived.Shelf.Strings.OnBuilder
import Derived.Shelf.Strings.Trim
import Derived.Shelf.Small.Utf8
import Derived.Shelf.Small.Strs
import Derived.Shelf.Small.Wraps
import Derived.Shelf.Strings.BuilderF
import Derived.Shelf.Strings.BuilderK
import Derived.Shelf.Strings.BuilderRune
import Derived.Shelf.Utf8.AppendRune
import Derived.Shelf.Utf8.AppendRunePlain
import Derived.Shelf.Strings.Builder2Cap
import Derived.Shelf.Strconv.Itoa0
import Derived.Shelf.Strconv.Itoa1
import Derived.Shelf.LaysM
import Derived.Shelf.Strconv.Itoa2
import Derived.Shelf.Strconv.Itoa3
import Derived.Shelf.Strings.Search1
import Derived.Shelf.Strings.Search2
import Derived.Shelf.Strings.Search3
import Derived.Shelf.Strings.Cut
import Derived.Shelf.Strings.Count
import Derived.Shelf.Strings.Shaped
import Derived.Shelf.Strings.LastIndex
import Derived.Shelf.Strings.Prefix
import Derived.Shelf.Strings.Split
import Derived.Shelf.Strings.Replace
import Derived.Shelf.Strings.Runes
import Derived.Shelf.Strings.IndexAny
import Derived.Shelf.Strings.AsciiSet
import Derived.Shelf.Strings.IndexAnyAll
import Derived.Shelf.Unicode.DecodeSlow
import Derived.Ground.Names2Prog
import Derived.Shelf.Slices.Clone
import Derived.Ground.SlgnProg
import Derived.Shelf.SlicesE.Clone
import Derived.Scope
import Derived.ScopeJumps
import Derived.WalkMore
import Derived.Lib.IndexAny
import Derived.Lib.Replace
import Derived.Lib.TrimByte
import Derived.Lib.ItoaNum
import Derived.Laws.RangeAny
import Derived.Lib.DecodeN
import Derived.Lib.OthersKept
import Derived.Deep.LoopGhost
import Derived.Laws.BytesString
import Derived.Deep.WholeRow
import Derived.WalkSpells
import Derived.WalkLawsBesides
import Derived.Lib.AppendIntMem
import Derived.Lib.SmallJoins
import Derived.WalkSmall
import Derived.OwnWalk
import Derived.Laws.CopyOwn
import Derived.Laws.ResultCell
import Derived.Deep.MidRow
import Derived.Lib.FrozenHead2
import Derived.Lib.Builder
import Derived.Deep.RegionLaw
import Derived.Lib.SlTrimSet
set_option linter.unusedSimpArgs false
set_option linter.unusedVariables false

namespace Go.Proofs.YtamockkjbkibdaaGreatDoor
open Go.RowKit

def gsV (u b : Adr) : Bool := decide (u.scheme ≠ [] ∧ (specV u.scheme = false ∨ u.scheme ≠ b.scheme))

theorem readV_base {s : List UInt8} {b : Adr} (h : ¬ 4096 < s.length) : readV s (some b) = if gsV (beginU s).1 b then startV (beginU s).1 (beginU s).2 else if b.opq = true ∧ (beginU s).2 ≠ [] then .error 12 else joinV (beginU s).1 (beginU s).2 b := by
 unfold readV
 rw [if_neg h]
 show (if (beginU s).1.scheme ≠ [] ∧ (specV (beginU s).1.scheme = false ∨ (beginU s).1.scheme ≠ b.scheme) then _ else _) = _
 by_cases hc : (beginU s).1.scheme ≠ [] ∧ (specV (beginU s).1.scheme = false ∨ (beginU s).1.scheme ≠ b.scheme)
 ·rw [if_pos hc, show gsV (beginU s).1 b = true from decide_eq_true hc, if_pos rfl]
 ·rw [if_neg hc, show gsV (beginU s).1 b = false from decide_eq_false hc]
  rfl

def set5 (w : World) (ub : Nat) (B : Adr) : World := ((((w.setCell ⟨ub, 1, none⟩ (.string ⟨B.user.toArray⟩)).setCell ⟨ub, 2, none⟩ (.string ⟨B.pass.toArray⟩)).setCell ⟨ub, 3, none⟩ (.string ⟨B.host.toArray⟩)).setCell ⟨ub, 4, none⟩ (.bool B.hasHost)).setCell ⟨ub, 5, none⟩ (.int .i64 B.port)

theorem set5_u {w : World} {ub : Nat} {U B : Adr} {pv : Value} (h : AdrIn w ub U pv) : AdrIn (set5 w ub B) ub { U with user := B.user, pass := B.pass, host := B.host, hasHost := B.hasHost, port := B.port } pv := by
 have h1 := h.set (v := { U with user := B.user }) (qv := pv) 1 (.string ⟨B.user.toArray⟩) rfl
 have h2 := h1.set (v := { U with user := B.user, pass := B.pass }) (qv := pv) 2 (.string ⟨B.pass.toArray⟩) rfl
 have h3 := h2.set (v := { U with user := B.user, pass := B.pass, host := B.host }) (qv := pv) 3 (.string ⟨B.host.toArray⟩) rfl
 have h4 := h3.set (v := { U with user := B.user, pass := B.pass, host := B.host, hasHost := B.hasHost }) (qv := pv) 4 (.bool B.hasHost) rfl
 exact h4.set (v := { U with user := B.user, pass := B.pass, host := B.host, hasHost := B.hasHost, port := B.port }) (qv := pv) 5 (.int .i64 B.port) rfl

theorem set5_other {w : World} {ub rb : Nat} {V B : Adr} {pv : Value} (h : AdrIn w rb V pv) (hne : rb ≠ ub) : AdrIn (set5 w ub B) rb V pv :=
 ((((h.set_other hne 1 _).set_other hne 2 _).set_other hne 3 _).set_other hne 4 _).set_other hne 5 _

theorem set5_below {w0 w : World} {ub : Nat} {B : Adr} (h : Below w0.heap.size w0 w) (hub : w0.heap.size ≤ ub) : Below w0.heap.size w0 (set5 w ub B) :=
 ((((h.setCell (p := ⟨ub, 1, none⟩) hub _).setCell (p := ⟨ub, 2, none⟩) hub _).setCell (p := ⟨ub, 3, none⟩) hub _).setCell (p := ⟨ub, 4, none⟩) hub _).setCell (p := ⟨ub, 5, none⟩) hub _

theorem path_drop {w : World} {v : Value} {L : List (List UInt8)} (h : PathAt w v L) : ∃ (a : Option Addr) (n c : Nat), v = .slice a n c ∧ n ≤ c ∧ c ≤ maxLen ∧ n = L.length ∧ PathAt w (.slice a (n - 1) c) L.dropLast := by
 rcases h with ⟨rfl, rfl⟩ | ⟨b, cap, rfl, h2, h3, h4, h5⟩
 ·exact ⟨none, 0, 0, rfl, Nat.le_refl _, Nat.zero_le _, rfl, .inl ⟨rfl, rfl⟩⟩
 ·refine ⟨some ⟨b, 0, none⟩, L.length, cap, rfl, h3, h4, rfl, .inr ⟨b, cap, by rw [List.length_dropLast], h2, by rw [List.length_dropLast]; omega, h4, ?_⟩⟩
  intro j hj
  rw [List.length_dropLast] at hj
  have := h5 j (by omega)
  rw [this]
  simp [List.getElem_dropLast]

set_option maxHeartbeats 8000000 in
set_option maxRecDepth 100000 in
theorem read_base (s : ByteArray) (bb : Nat) (B : Adr) (bv : Value) (w : World) (hg : Gd w) (hs : s.size ≤ 100000) (hB : AdrIn w bb B bv) (hP : PathAt w bv B.path) (hPl : B.path.length ≤ 100000) :
  Calls Tryz.prog 50 #[.string s, .pointer (some ⟨bb, 0, none⟩)] w (ReadPost (readV s.data.toList (some B)) w) := by
 have HG := hid hg
 have HBs := hid hB
 have HPa := hid hP
 clear hg hB hP
 have h0 : AdrIn (w.alloc (.cells (adrCells Adr.zero (.slice none 0 0)).toArray 24)) w.heap.size Adr.zero (.slice none 0 0) := heap_alloc_new w _
 have hb0 : Below w.heap.size w (w.alloc (.cells (adrCells Adr.zero (.slice none 0 0)).toArray 24)) := (Below.refl _ w).alloc (Nat.le_refl _) _
 have hz0 : (w.alloc (.cells (adrCells Adr.zero (.slice none 0 0)).toArray 24)).heap.size = w.heap.size + 1 := by simp
 have H0 := hid h0
 have HB0 := hid hb0
 have HZ0 := hid hz0
 clear h0 hb0 hz0
 obtain ⟨r0, c, X, Y, Z, S, hc, hfq, hfp, hfa, hfs⟩ := read_parts
 have HSt := hid (@seg_start r0 c X Y Z S hc hfq hfp hfa hfs 1)
 have HSP := hid (@seg_path r0 c X Y hc hfq hfp)
 have HSQ := hid (@seg_query r0 c X hc hfq)
 obtain ⟨Q, hQ⟩ : ∃ Q, Q = exitFwd Tryz.prog c (bodyPost Tryz.prog Tryz.f50 (ReadPost (readV s.data.toList (some B)) w)) 3 := ⟨_, rfl⟩
 have HSc : Hid (∀ a w', c.wp Tryz.prog Q a w' → (Code.scope c).wp Tryz.prog (bodyPost Tryz.prog Tryz.f50 (ReadPost (readV s.data.toList (some B)) w)) a w') := fun a w' h => wp_scope_fwd 3 (by rw [← hQ]; exact h)
 have HRet : Hid (∀ a w', bodyPost Tryz.prog Tryz.f50 (ReadPost (readV s.data.toList (some B)) w) .ret a w' → Q .ret a w') := fun a w' h => by rw [hQ, exitFwd_ret]; exact h
 have HJ0 : Hid (∀ a w', S.wp Tryz.prog (exitFwd Tryz.prog c (bodyPost Tryz.prog Tryz.f50 (ReadPost (readV s.data.toList (some B)) w)) 2) a w' → Q (.goto 0) a w') := fun a w' h => by rw [hQ]; exact exitFwd_goto _ hfs (wp_skip_seq h)
 have HJ1 : Hid (∀ a w', Y.wp Tryz.prog (bodyPost Tryz.prog Tryz.f50 (ReadPost (readV s.data.toList (some B)) w)) a w' → Q (.goto 1) a w') := fun a w' h => by rw [hQ]; exact exitFwd_goto _ hfp (wp_skip_seq (wp_mono h (bp_fwd 2)))
 have HJ2 : Hid (∀ a w', X.wp Tryz.prog (bodyPost Tryz.prog Tryz.f50 (ReadPost (readV s.data.toList (some B)) w)) a w' → Q (.goto 2) a w') := fun a w' h => by rw [hQ]; exact exitFwd_goto _ hfq (wp_skip_seq (wp_mono h (bp_fwd 2)))
 clear hQ hfq hfp hfa hfs
 refine calls_of_wp Tryz.func50 hc ?_
 simp only [Tryz.ntmps50, List.size_toArray, List.length_cons, List.length_nil, Nat.reduceAdd, Nat.reduceSub, Array.replicate_succ, Array.replicate_zero, List.push_toArray, List.append_toArray, List.nil_append, List.cons_append]
 generalize hBP : bodyPost Tryz.prog Tryz.f50 (ReadPost (readV s.data.toList (some B)) w) = BP at HSc HRet HJ0 HJ1 HJ2 ⊢
 have HBP := hid hBP
 clear hBP
 unfold Tryz.f50 at hc
 cases hc
 by_cases hlong : 4096 < s.size
 ·have HN := hid (readV_long (s := s.data.toList) (b := some B) (by simpa using hlong))
  have HBeg := hid (fun w => begin_long s w hlong)
  clear hlong HSt HJ0 HSP HSQ HJ1 HJ2
  go_wp2
  refine HSc.out _ _ ?_
  go_wp2_with fail
  refine (HBeg.out _).mono ?_
  rintro e w1 ⟨rfl, hb1⟩
  have HR1 := hid (H0.out.kept hb1)
  have HB1 := hid (HB0.out.trans (hb1.mono HB0.out.size))
  have hsz1 : w.heap.size + 1 ≤ w1.heap.size := by have := hb1.size; rw [World.size_alloc] at this; exact this
  have hth : (w1.alloc (.cells #[.string ⟨#[]⟩, .string ⟨#[]⟩, .string ⟨#[]⟩, .string ⟨#[]⟩, .bool false, .int .i64 0, .bool false, .slice none 0 0, .string ⟨#[]⟩, .string ⟨#[]⟩, .bool false, .bool false] 24)).there w1.heap.size 0 (adrCells Adr.zero (.slice none 0 0)).toArray.size := there_row (heap_alloc_new w1 _) (by decide)
  have hb2 : Below w.heap.size w ((w1.alloc (.cells #[.string ⟨#[]⟩, .string ⟨#[]⟩, .string ⟨#[]⟩, .string ⟨#[]⟩, .bool false, .int .i64 0, .bool false, .slice none 0 0, .string ⟨#[]⟩, .string ⟨#[]⟩, .bool false, .bool false] 24)).setCells w1.heap.size 0 (adrCells Adr.zero (.slice none 0 0))) := below_setCells (by omega) _ _ _ (below2 HB1.out ((Below.refl _ w1).alloc (Nat.le_refl _) _))
  have hr2 : AdrIn ((w1.alloc (.cells #[.string ⟨#[]⟩, .string ⟨#[]⟩, .string ⟨#[]⟩, .string ⟨#[]⟩, .bool false, .int .i64 0, .bool false, .slice none 0 0, .string ⟨#[]⟩, .string ⟨#[]⟩, .bool false, .bool false] 24)).setCells w1.heap.size 0 (adrCells Adr.zero (.slice none 0 0))) w.heap.size Adr.zero (.slice none 0 0) := by
   unfold AdrIn
   rw [setCells_other (by omega)]
   exact HR1.out.kept ((Below.refl _ w1).alloc (Nat.le_refl _) _)
  have hth2 : ((w1.alloc (.cells #[.string ⟨#[]⟩, .string ⟨#[]⟩, .string ⟨#[]⟩, .string ⟨#[]⟩, .bool false, .int .i64 0, .bool false, .slice none 0 0, .string ⟨#[]⟩, .string ⟨#[]⟩, .bool false, .bool false] 24)).setCells w1.heap.size 0 (adrCells Adr.zero (.slice none 0 0))).there w.heap.size 0 (adrCells Adr.zero (.slice none 0 0)).toArray.size := hr2.there
  have HR2 := hid hr2
  have HB2 := hid hb2
  clear hb1 hb2 hr2
  dsimp only
  go_wp2_with (first | refine wpList_store_mid rfl 24 (.tmp 8) (.tmp 14) rfl w1.heap.size 0 (adrCells Adr.zero (.slice none 0 0)).toArray ?h1 ?h2 ?h3 ?h4 ?h5 ?h6 | refine wpList_store_mid rfl 24 (.tmp 4) (.tmp 20) rfl w.heap.size 0 (adrCells Adr.zero (.slice none 0 0)).toArray ?k1 ?k2 ?k3 ?k4 ?k5 ?k6)
  case h1 => rfl
  case h2 => rfl
  case h4 => exact sizeUa _ _
  case h5 => exact all_oneCell_toArray (adrCells_one _ _ ⟨_, _, _, rfl⟩)
  case h3 => exact hth
  case k1 => rfl
  case k2 => rfl
  case k4 => exact sizeUa _ _
  case k5 => exact all_oneCell_toArray (adrCells_one _ _ ⟨_, _, _, rfl⟩)
  case k3 => exact hth2
  refine HRet.out _ _ ?_
  rw [← HBP.out]
  refine bodyPost_ret (results_u2 rfl _ _ w.heap.size Adr.zero (.slice none 0 0) rfl (range_row HR2.out.store)) rfl ⟨.slice none 0 0, ?_, ?_, below_setCells (Nat.le_refl _) _ _ _ HB2.out⟩
  ·rw [HN.out]; rfl
  ·rw [HN.out]; exact own_nil _ _ _
 ·obtain ⟨U, Rl, hbu⟩ : ∃ U R, beginU s.data.toList = (U, R) := ⟨_, _, rfl⟩
  obtain ⟨R, hRd⟩ : ∃ R : ByteArray, R = ⟨Rl.toArray⟩ := ⟨_, rfl⟩
  have hRl : R.data.toList = Rl := by rw [hRd]
  have hRs : R.size ≤ 100000 := by
   have := begin_le s.data.toList
   rw [hbu] at this
   rw [Lib.size_eq, hRl]
   simp at this
   omega
  have HBeg : Hid (∀ w : World, Gd w → Calls Tryz.prog 80 #[.string s] w fun e w' => e = .returned (.tuple #[adrVal U (.slice none 0 0), .string R, .int .i64 0]) ∧ Below w.heap.size w w') := fun w hg => by
   have := begin_any s w hg (by omega)
   rw [hbu] at this
   rw [hRd]
   exact this
  have hnl : ¬ 4096 < s.data.toList.length := by simpa using hlong
  have HV := hid (readV_base (s := s.data.toList) (b := B) hnl)
  rw [hbu, show (U, Rl).2 = R.data.toList from hRl.symm] at HV
  clear hbu hRd hRl hlong hnl
  go_wp2
  refine HSc.out _ _ ?_
  go_wp2_with fail
  refine (HBeg.out _ (HG.out.kept HB0.out)).mono ?_
  rintro e w1 ⟨rfl, hb1⟩
  have HR1 := hid (H0.out.kept hb1)
  have HB1 := hid (HB0.out.trans (hb1.mono HB0.out.size))
  have hsz1 := hb1.size
  rw [HZ0.out] at hsz1
  have hN1 : AdrIn (w1.alloc (.cells #[.string ⟨#[]⟩, .string ⟨#[]⟩, .string ⟨#[]⟩, .string ⟨#[]⟩, .bool false, .int .i64 0, .bool false, .slice none 0 0, .string ⟨#[]⟩, .string ⟨#[]⟩, .bool false, .bool false] 24)) w1.heap.size Adr.zero (.slice none 0 0) := heap_alloc_new w1 _
  have hb12 : Below w1.heap.size w1 (w1.alloc (.cells #[.string ⟨#[]⟩, .string ⟨#[]⟩, .string ⟨#[]⟩, .string ⟨#[]⟩, .bool false, .int .i64 0, .bool false, .slice none 0 0, .string ⟨#[]⟩, .string ⟨#[]⟩, .bool false, .bool false] 24)) := (Below.refl _ w1).alloc (Nat.le_refl _) _
  have HN1 := hid hN1
  have HB12 := hid hb12
  clear hb1 hN1 hb12
  dsimp only
  have hth : (w1.alloc (.cells #[.string ⟨#[]⟩, .string ⟨#[]⟩, .string ⟨#[]⟩, .string ⟨#[]⟩, .bool false, .int .i64 0, .bool false, .slice none 0 0, .string ⟨#[]⟩, .string ⟨#[]⟩, .bool false, .bool false] 24)).there w1.heap.size 0 (adrCells U (.slice none 0 0)).toArray.size := HN1.out.there
  go_wp2_with (refine wpList_store_mid rfl 24 (.tmp 8) (.tmp 14) rfl w1.heap.size 0 (adrCells U (.slice none 0 0)).toArray ?p1 ?p2 ?p3 ?p4 ?p5 ?p6)
  case p1 => rfl
  case p2 => rfl
  case p4 => exact sizeUa _ _
  case p5 => exact all_oneCell_toArray (adrCells_one _ _ ⟨_, _, _, rfl⟩)
  case p3 => exact hth
  clear hth
  have hu2 : AdrIn ((w1.alloc (.cells #[.string ⟨#[]⟩, .string ⟨#[]⟩, .string ⟨#[]⟩, .string ⟨#[]⟩, .bool false, .int .i64 0, .bool false, .slice none 0 0, .string ⟨#[]⟩, .string ⟨#[]⟩, .bool false, .bool false] 24)).setCells w1.heap.size 0 (adrCells U (.slice none 0 0))) w1.heap.size U (.slice none 0 0) := HN1.out.store
  have hr2 : AdrIn ((w1.alloc (.cells #[.string ⟨#[]⟩, .string ⟨#[]⟩, .string ⟨#[]⟩, .string ⟨#[]⟩, .bool false, .int .i64 0, .bool false, .slice none 0 0, .string ⟨#[]⟩, .string ⟨#[]⟩, .bool false, .bool false] 24)).setCells w1.heap.size 0 (adrCells U (.slice none 0 0))) w.heap.size Adr.zero (.slice none 0 0) := by
   unfold AdrIn
   rw [setCells_other (by omega)]
   exact HR1.out.kept HB12.out
  have hb2 : Below w.heap.size w ((w1.alloc (.cells #[.string ⟨#[]⟩, .string ⟨#[]⟩, .string ⟨#[]⟩, .string ⟨#[]⟩, .bool false, .int .i64 0, .bool false, .slice none 0 0, .string ⟨#[]⟩, .string ⟨#[]⟩, .bool false, .bool false] 24)).setCells w1.heap.size 0 (adrCells U (.slice none 0 0))) := below_setCells (by omega) _ _ _ (below2 HB1.out HB12.out)
  generalize ((w1.alloc (.cells #[.string ⟨#[]⟩, .string ⟨#[]⟩, .string ⟨#[]⟩, .string ⟨#[]⟩, .bool false, .int .i64 0, .bool false, .slice none 0 0, .string ⟨#[]⟩, .string ⟨#[]⟩, .bool false, .bool false] 24)).setCells w1.heap.size 0 (adrCells U (.slice none 0 0))) = w2 at hu2 hr2 hb2 ⊢
  obtain ⟨SC, hSC⟩ : ∃ SC : ByteArray, SC = ⟨U.scheme.toArray⟩ := ⟨_, rfl⟩
  have hc0 : w2.cell? ⟨w1.heap.size, 0, none⟩ = some (.string SC) := by rw [hSC]; exact hu2.cell 0 _ rfl
  have HU2 := hid hu2
  have HR2 := hid hr2
  have HB2 := hid hb2
  clear hu2 hr2 hb2 HN1 HB12
  have HB2b := hid (HB2.out.drew)
  have hcb0 : w2.cell? ⟨bb, 0, none⟩ = some (.string ⟨B.scheme.toArray⟩) := (HBs.out.kept HB2.out).cell 0 _ rfl
  have HSpec : Hid (∀ w : World, Calls Tryz.prog 48 #[.string SC] w fun e w' => e = .returned (.bool (specV U.scheme)) ∧ w = w') := fun w => by rw [hSC]; exact special_any ⟨U.scheme.toArray⟩ w
  obtain ⟨BS, hBS⟩ : ∃ BS : ByteArray, BS = ⟨B.scheme.toArray⟩ := ⟨_, rfl⟩
  rw [← hBS] at hcb0
  go_upto_region 6 with fail
  go_cut [22] from 23 (fun x wx => x = .bool (gsV U B) ∧ ∃ nq, wx = w2.drewN nq)
  case first =>
   by_cases hsc : U.scheme = []
   ·have he := empty_yes SC (by rw [hSC]; exact hsc)
    have HGs := hid (show gsV U B = false by unfold gsV; exact decide_eq_false (fun h => h.1 hsc))
    clear hsc hSC hBS
    go_quiet (fail)
    go_wp2_with fail
    go_meet
    case rel => exact ⟨by rw [HGs.out], _, rfl⟩
   ·have he := empty_no SC (by rw [hSC]; exact hsc)
    cases hsp : specV U.scheme with
    | false =>
     have HGs := hid (show gsV U B = true by unfold gsV; exact decide_eq_true ⟨hsc, .inl hsp⟩)
     rw [hsp] at HSpec
     clear hsc hSC hBS hsp
     go_quiet (first | (go_at_call 48; refine Calls.quiet_of_same ((HSpec.out _).mono fun _ _ h => ⟨h.1, h.2.symm⟩)))
     go_wp2_with fail
     go_meet
     case rel => exact ⟨by rw [HGs.out], _, rfl⟩
    | true =>
     rw [hsp] at HSpec
     by_cases heq : U.scheme = B.scheme
     ·have HGs := hid (show gsV U B = false by unfold gsV; exact decide_eq_false (fun h => by rcases h.2 with h2 | h2; rw [hsp] at h2; cases h2; exact h2 heq))
      obtain rfl : BS = SC := by rw [hBS, hSC, heq]
      clear hsc hSC hBS hsp heq
      go_quiet (first | (go_at_call 48; refine Calls.quiet_of_same ((HSpec.out _).mono fun _ _ h => ⟨h.1, h.2.symm⟩)))
      go_wp2_with fail
      go_meet
      case rel => exact ⟨by rw [HGs.out], _, rfl⟩
     ·have HGs := hid (show gsV U B = true by unfold gsV; exact decide_eq_true ⟨hsc, .inr heq⟩)
      have hne : (SC.toList == BS.toList) = false := by
       rw [beq_eq_false_iff_ne, Lib.toList_data, Lib.toList_data, hSC, hBS]; exact heq
      clear hsc hSC hBS hsp heq
      go_quiet (first | (go_at_call 48; refine Calls.quiet_of_same ((HSpec.out _).mono fun _ _ h => ⟨h.1, h.2.symm⟩)))
      go_wp2_with fail
      go_meet
      case rel => exact ⟨by rw [HGs.out], _, rfl⟩
  case rest =>
   obtain ⟨rfl, nq, rfl⟩ := hcut
   have HU3 := hid (show AdrIn (w2.drewN nq) w1.heap.size U (.slice none 0 0) from HU2.out)
   have HR3 := hid (show AdrIn (w2.drewN nq) w.heap.size Adr.zero (.slice none 0 0) from HR2.out)
   have HB3 := hid (show Below w.heap.size w (w2.drewN nq) from ⟨HB2.out.os, HB2.out.tape, HB2.out.output, HB2.out.size, HB2.out.block⟩)
   have HC3 := hid (show AdrIn (w2.drewN nq) bb B bv from (HBs.out.kept HB3.out))
   have hcb : (w2.drewN nq).cell? ⟨bb, 0, none⟩ = some (.string BS) := hcb0
   clear hc0 hcb0 HU2 HR2 HB2 HB2b
   generalize w2.drewN nq = w3 at *
   cases hgs : gsV U B with
   | true =>
    have HN := hid (show readV s.data.toList (some B) = startV U R.data.toList by rw [HV.out, hgs]; rfl)
    clear hgs
    go_wp2
    go_step3
    refine HJ0.out _ _ ?_
    rw [← HBP.out, HN.out]
    apply HSt.out
    ·exact HG.out
    ·exact HB3.out
    ·exact HR3.out
    ·exact HU3.out
    ·exact Nat.le_refl _
    ·omega
    ·exact hRs
   | false =>
    have HN := hid (show readV s.data.toList (some B) = if B.opq = true ∧ R.data.toList ≠ [] then .error 12 else joinV U R.data.toList B by rw [HV.out, hgs]; rfl)
    clear hgs
    obtain ⟨A, hAd⟩ : ∃ A : ByteArray, A = ⟨(slashedV B.scheme R.data.toList).toArray⟩ := ⟨_, rfl⟩
    have hAl : A.data.toList = slashedV B.scheme R.data.toList := by rw [hAd]
    have hAs : A.size ≤ 100000 := by rw [hAd]; exact size_le (by rw [slashed_len]; exact Nat.le_refl _) hRs
    have HSl : Hid (∀ w : World, Gd w → Calls Tryz.prog 81 #[.string R, .string BS] w fun e w' => e = .returned (.string A) ∧ Below w.heap.size w w') := fun w hg => by
     have := slashed_any R BS w hg (by omega)
     rw [show BS.data.toList = B.scheme by rw [hBS], ← hAd] at this
     exact this
    have HPr2 : Hid (∀ w : World, Calls Tryz.prog 59 #[.string A, .string ⟨#[47, 47]⟩] w fun e w' => e = .returned (.bool (Lib.hasPrefix A.data.toList [47, 47])) ∧ w = w') := fun w => hasPrefix_any A ⟨#[47, 47]⟩ w
    have HPr1 : Hid (∀ w : World, Calls Tryz.prog 59 #[.string A, .string ⟨#[47]⟩] w fun e w' => e = .returned (.bool (Lib.hasPrefix A.data.toList [47])) ∧ w = w') := fun w => hasPrefix_any A ⟨#[47]⟩ w
    have HRA := hid (show R.data.toList = [] ↔ A.data.toList = [] by
     have h := slashed_len B.scheme R.data.toList
     rw [← hAl] at h
     constructor
     ·intro e; rw [e] at h; exact List.eq_nil_of_length_eq_zero h
     ·intro e; rw [e] at h; exact List.eq_nil_of_length_eq_zero h.symm)
    have HJo := hid (show joinV U R.data.toList B = if Lib.hasPrefix A.data.toList [47, 47] then startV { U with scheme := B.scheme } A.data.toList else if Lib.hasPrefix A.data.toList [47] then .ok (withPath { U with scheme := B.scheme, user := B.user, pass := B.pass, host := B.host, hasHost := B.hasHost, port := B.port } [] A.data.toList) else if A.data.toList ≠ [] ∧ A.data.toList.head? ≠ some 63 then .ok (withPath { U with scheme := B.scheme, user := B.user, pass := B.pass, host := B.host, hasHost := B.hasHost, port := B.port } B.path.dropLast A.data.toList) else .ok (withQuery { U with scheme := B.scheme, user := B.user, pass := B.pass, host := B.host, hasHost := B.hasHost, port := B.port, opq := B.opq, path := B.path, query := B.query, hasQuery := B.hasQuery } A.data.toList) by
     rw [hAl]; rfl)
    have hcb6 : w3.cell? ⟨bb, 6, none⟩ = some (.bool B.opq) := HC3.out.cell 6 _ rfl
    clear hAd hAl
    by_cases hbad : B.opq = true ∧ R.data.toList ≠ []
    ·have HN2 := hid (show readV s.data.toList (some B) = .error 12 by rw [HN.out, if_pos hbad])
     have he := empty_no R hbad.2
     obtain ⟨ho, _⟩ := hbad
     rw [ho] at hcb6
     clear ho
     have hth2 : w3.there w.heap.size 0 (adrCells Adr.zero (.slice none 0 0)).toArray.size := HR3.out.there
     go_wp2_with (refine wpList_store_mid rfl 24 (.tmp 4) (.tmp 56) rfl w.heap.size 0 (adrCells Adr.zero (.slice none 0 0)).toArray ?q1 ?q2 ?q3 ?q4 ?q5 ?q6)
     case q1 => rfl
     case q2 => rfl
     case q4 => exact sizeUa _ _
     case q5 => exact all_oneCell_toArray (adrCells_one _ _ ⟨_, _, _, rfl⟩)
     case q3 => exact hth2
     refine HRet.out _ _ ?_
     rw [← HBP.out]
     refine bodyPost_ret (results_u2 rfl _ _ w.heap.size Adr.zero (.slice none 0 0) rfl (range_row HR3.out.store)) rfl ⟨.slice none 0 0, ?_, ?_, below_setCells (Nat.le_refl _) _ _ _ HB3.out⟩
     ·rw [HN2.out]; rfl
     ·rw [HN2.out]; exact own_nil _ _ _
    ·have HN1 := hid (show readV s.data.toList (some B) = joinV U R.data.toList B by rw [HN.out, if_neg hbad])
     have HBad := hid hbad
     clear hbad
     go_upto_region 8 with fail
     go_cut [45] from 46 (fun x wx => x = .bool false ∧ wx = w3)
     case first =>
      by_cases hre : R.data.toList = []
      ·have he := empty_yes R hre
       clear hre
       obtain ⟨ob, hob⟩ : ∃ ob, B.opq = ob := ⟨_, rfl⟩
       rw [hob] at hcb6
       clear hob
       cases ob with
       | true =>
        go_wp2_with fail
        go_meet
        case rel => exact ⟨rfl, rfl⟩
       | false =>
        go_wp2_with fail
        go_meet
        case rel => exact ⟨rfl, rfl⟩
      ·have he := empty_no R hre
       have ho : B.opq = false := by
        cases h : B.opq with
        | false => rfl
        | true => exact absurd ⟨h, hre⟩ HBad.out
       rw [ho] at hcb6
       clear hre ho
       go_wp2_with fail
       go_meet
       case rel => exact ⟨rfl, rfl⟩
     case rest =>
      obtain ⟨rfl, rfl⟩ := hcut
      go_upto_region 10 with fail
      have hbu : bb ≠ w1.heap.size := by have := HBs.out.lt; omega
      have hwu : w.heap.size ≠ w1.heap.size := by omega
      have hwl : w.heap.size ≤ w1.heap.size := by omega
      refine wp_reg (rr10 _ _ _ _ _ _ _ _ _ _ _ _ _ _ _ _ _ _ _ _ _ _ _ _ _ _ _ _ _ _ _ _ _ _ _ _ _ _ _ _ _ _ _ _ _ _ _ _ _ _ _ _ _ _ _ _ _ _ _ _ _ _ _ _ _ _ _ _ _ _ _ _ _ _ _ _ _ _ _ _ _ _ _ _ _ _ _ _ _ _ _ _ _ _ _ _ _ _ _ _ _ _ _ _ _ _ _ _ _ _ _ _ _ _ _ _ _ _ _ _ _ _ _ _ _ _ _ _ _ _ _ _ _ _ _ _ _ _ _ _ _ _ _ _ _ _ _ _ _ _ _ _ _ _ _ _ _ _ _ _ _ _ _ _ _ _ _ _ _ _ _ _ _ _ _ _ _ _ _ _ _ _ _ _ _ _ _ _ _ _ _ _ _ _ _ _ _ _ _ _ _ _ _ _ _ _ hbu hcb HU3.out (hid (fun X hX => HSl.out X (HG.out.kept (below2 HB3.out hX)))) _ ?hk)
      case hk =>
       intro u57 u58 u59 u60 u61 u62 u63 u64 u65 u66 u67 w4 w5 hb4 hw5
       have HU5 := hid (show AdrIn w5 w1.heap.size { U with scheme := B.scheme } (.slice none 0 0) by rw [hw5]; exact (HU3.out.kept hb4).set 0 _ (by rw [hBS]; rfl))
       have HR5 := hid (show AdrIn w5 w.heap.size Adr.zero (.slice none 0 0) by rw [hw5]; exact (HR3.out.kept hb4).set_other hwu 0 _)
       have HB5 := hid (show Below w.heap.size w w5 by rw [hw5]; exact (below2 HB3.out hb4).setCell (p := ⟨w1.heap.size, 0, none⟩) hwl _)
       have HC5 := hid (HBs.out.kept HB5.out)
       clear hw5 hb4 HU3 HR3 HC3 hcb hcb6 HSl HB3 HBad
       cases hp2 : Lib.hasPrefix A.data.toList [47, 47] with
       | true =>
        have HN2 := hid (show readV s.data.toList (some B) = startV { U with scheme := B.scheme } A.data.toList by rw [HN1.out, HJo.out, hp2]; rfl)
        rw [hp2] at HPr2
        clear hp2
        go_wp2_with (go_at_call 59; refine (HPr2.out _).mono ?_; rintro e w' ⟨rfl, rfl⟩)
        go_step3
        refine HJ0.out _ _ ?_
        rw [← HBP.out, HN2.out]
        apply HSt.out
        ·exact HG.out
        ·exact HB5.out
        ·exact HR5.out
        ·exact HU5.out
        ·exact Nat.le_refl _
        ·omega
        ·exact hAs
       | false =>
        rw [hp2] at HPr2
        have HP2 := hid hp2
        clear hp2
        go_upto_region 12 with (go_at_call 59; refine (HPr2.out _).mono ?_; rintro e w' ⟨rfl, rfl⟩)
        refine wp_reg (rr12 _ _ _ _ _ _ _ _ _ _ _ _ _ _ _ _ _ _ _ _ _ _ _ _ _ _ _ _ _ _ _ _ _ _ _ _ _ _ _ _ _ _ _ _ _ _ _ _ _ _ _ _ _ _ _ _ _ _ _ _ _ _ _ _ _ _ _ _ _ _ _ _ _ _ _ _ _ _ _ _ _ _ _ _ _ _ _ _ _ _ _ _ _ _ _ _ _ _ _ _ _ _ _ _ _ _ _ _ _ _ _ _ _ _ _ _ _ _ _ _ _ _ _ _ _ _ _ _ _ _ _ _ _ _ _ _ _ _ _ _ _ _ _ _ _ _ _ _ _ _ _ _ _ _ _ _ _ _ _ _ _ _ _ _ _ _ _ _ _ _ _ _ _ _ _ _ _ _ _ _ _ _ _ _ _ _ _ _ _ _ _ _ _ _ _ _ _ _ _ _ _ _ _ _ _ _ _ _ _ hbu (⟨HC5.out.cell 1 _ rfl, HC5.out.cell 2 _ rfl, HC5.out.cell 3 _ rfl, HC5.out.cell 4 _ rfl, HC5.out.cell 5 _ rfl⟩) HU5.out _ ?hk2)
        case hk2 =>
         intro u70 u71 u72 u73 u74 u75 u76 u77 u78 u79 u80 u81 u82 u83 u84 u85 u86 u87 u88 u89 u90 u91 u92 u93 u94 w6 hw6
         have HU6 := hid (show AdrIn w6 w1.heap.size { U with scheme := B.scheme, user := B.user, pass := B.pass, host := B.host, hasHost := B.hasHost, port := B.port } (.slice none 0 0) by rw [hw6]; exact set5_u (U := { U with scheme := B.scheme }) (show AdrIn w5.drew w1.heap.size { U with scheme := B.scheme } (.slice none 0 0) from HU5.out))
         have HR6 := hid (show AdrIn w6 w.heap.size Adr.zero (.slice none 0 0) by rw [hw6]; exact set5_other (B := B) (show AdrIn w5.drew w.heap.size Adr.zero (.slice none 0 0) from HR5.out) hwu)
         have HB6 := hid (show Below w.heap.size w w6 by rw [hw6]; exact set5_below (B := B) HB5.out.drew hwl)
         have HC6 := hid (HBs.out.kept HB6.out)
         have HP6 := hid (HPa.out.kept HB6.out)
         clear hw6 HU5 HR5 HB5 HC5
         cases hp1 : Lib.hasPrefix A.data.toList [47] with
         | true =>
          have HN2 := hid (show readV s.data.toList (some B) = .ok (withPath { U with scheme := B.scheme, user := B.user, pass := B.pass, host := B.host, hasHost := B.hasHost, port := B.port } [] A.data.toList) by rw [HN1.out, HJo.out, HP2.out, hp1]; rfl)
          rw [hp1] at HPr1
          clear hp1
          go_wp2_with (go_at_call 59; refine (HPr1.out _).mono ?_; rintro e w' ⟨rfl, rfl⟩)
          go_step3
          refine HJ1.out _ _ ?_
          rw [← HBP.out, HN2.out]
          apply HSP.out
          ·exact HG.out
          ·exact HB6.out
          ·exact HR6.out
          ·exact HU6.out
          ·exact Nat.le_refl _
          ·exact hwl
          ·exact hwu
          ·exact .inl ⟨rfl, rfl⟩
          ·exact Nat.zero_le _
          ·exact hAs
         | false =>
          rw [hp1] at HPr1
          have HP1 := hid hp1
          clear hp1
          by_cases hq : A.data.toList ≠ [] ∧ A.data.toList.head? ≠ some 63
          ·have HN2 := hid (show readV s.data.toList (some B) = .ok (withPath { U with scheme := B.scheme, user := B.user, pass := B.pass, host := B.host, hasHost := B.hasHost, port := B.port } B.path.dropLast A.data.toList) by rw [HN1.out, HJo.out, HP2.out, HP1.out, if_neg (by decide), if_neg (by decide), if_pos hq])
           have he := empty_no A hq.1
           obtain ⟨hA0, hA1⟩ : ∃ h : 0 < A.size, ((A[0].toNat : Int) == 63) = false := by
            have hpos : 0 < A.size := by rw [Lib.size_eq]; exact List.length_pos_iff.2 hq.1
            refine ⟨hpos, ?_⟩
            rw [beq_eq_false_iff_ne]
            intro e
            apply hq.2
            have h63 : A[0] = 63 := by
             have : A[0].toNat = 63 := by omega
             exact UInt8.toNat_inj.1 this
            have : A.data.toList.head? = some A[0] := by
             rw [List.head?_eq_getElem?]
             rw [List.getElem?_eq_getElem (by rw [← Lib.size_eq]; exact hpos)]
             rfl
            rw [this, h63]
           obtain ⟨pa, pn, pc, rfl, hpn, hpc, hpl, hpd⟩ := path_drop HP6.out
           have hcb7 : w6.cell? ⟨bb, 7, none⟩ = some (.slice pa pn pc) := HC6.out.cell 7 _ rfl
           have HPd := hid hpd
           clear hq hpd
           go_upto_region 15 with (go_at_call 59; refine (HPr1.out _).mono ?_; rintro e w' ⟨rfl, rfl⟩)
           go_quiet (fail)
           have hmx : (max ((B.path.length : Int) - 1) 0).toNat = B.path.length - 1 := by omega
           rw [hmx]
           have HPe := hid (show PathAt w6 (.slice pa (B.path.length - 1) pc) B.path.dropLast by have := HPd.out; rw [hpl] at this; exact this)
           clear hmx hpn hpc hpl hcb7
           go_wp2_with fail
           go_step3
           refine HJ1.out _ _ ?_
           rw [← HBP.out, HN2.out]
           apply HSP.out
           ·exact HG.out
           ·exact ⟨HB6.out.os, HB6.out.tape, HB6.out.output, HB6.out.size, HB6.out.block⟩
           ·exact HR6.out
           ·exact HU6.out
           ·exact Nat.le_refl _
           ·exact hwl
           ·exact hwu
           ·exact HPe.out
           ·rw [List.length_dropLast]; omega
           ·exact hAs
          ·have HN2 := hid (show readV s.data.toList (some B) = .ok (withQuery { U with scheme := B.scheme, user := B.user, pass := B.pass, host := B.host, hasHost := B.hasHost, port := B.port, opq := B.opq, path := B.path, query := B.query, hasQuery := B.hasQuery } A.data.toList) by rw [HN1.out, HJo.out, HP2.out, HP1.out, if_neg (by decide), if_neg (by decide), if_neg hq])
           go_upto_region 14 with (go_at_call 59; refine (HPr1.out _).mono ?_; rintro e w' ⟨rfl, rfl⟩)
           go_cut [98] from 99 (fun x wx => x = .bool false ∧ wx = w6)
           case first =>
            by_cases hA : A.data.toList = []
            ·have he := empty_yes A hA
             clear hA hq
             go_wp2_with fail
             go_meet
             case rel => exact ⟨rfl, rfl⟩
            ·have he := empty_no A hA
             obtain ⟨hA0, hA1⟩ : ∃ h : 0 < A.size, ((A[0].toNat : Int) == 63) = true := by
              have hpos : 0 < A.size := by rw [Lib.size_eq]; exact List.length_pos_iff.2 hA
              refine ⟨hpos, ?_⟩
              rw [beq_iff_eq]
              have hh : A.data.toList.head? = some A[0] := by
               rw [List.head?_eq_getElem?]
               rw [List.getElem?_eq_getElem (by rw [← Lib.size_eq]; exact hpos)]
               rfl
              have h63 : A.data.toList.head? = some 63 := by
               by_cases h : A.data.toList.head? = some 63
               ·exact h
               ·exact absurd ⟨hA, h⟩ hq
              rw [hh] at h63
              injection h63 with h63
              rw [h63]; rfl
             clear hA hq
             go_wp2_with fail
             go_meet
             case rel => exact ⟨by rw [show ((A[0].toNat : Int) != 63) = false by simp only [bne, hA1]; rfl], rfl⟩
           case rest =>
            obtain ⟨rfl, rfl⟩ := hcut
            clear hq
            obtain ⟨pa, pn, pc, rfl, hpn, hpc, hpl, -⟩ := path_drop HP6.out
            go_upto_region 16 with fail
            refine wp_reg (rr16 _ _ _ _ _ _ _ _ _ _ _ _ _ _ _ _ _ _ _ _ _ _ _ _ _ _ _ _ _ _ _ _ _ _ _ _ _ _ _ _ _ _ _ _ _ _ _ _ _ _ _ _ _ _ _ _ _ _ _ _ _ _ _ _ _ _ _ _ _ _ _ _ _ _ _ _ _ _ _ _ _ _ _ _ _ _ _ _ _ _ _ _ _ _ _ _ _ _ _ _ _ _ _ _ _ _ _ _ _ _ _ _ _ _ _ _ _ _ _ _ _ _ _ _ _ _ _ _ _ _ _ _ _ _ _ _ _ _ _ _ _ _ _ _ _ _ _ _ _ _ _ _ _ _ _ _ _ _ _ _ _ _ _ _ _ _ _ _ _ _ _ _ _ _ _ _ _ _ _ _ _ _ _ _ _ _ _ _ _ _ _ _ _ _ _ _ _ _ _ _ _ _ _ _ _ _ _ _ _ hbu (⟨HC6.out.cell 6 _ rfl, HC6.out.cell 7 _ rfl⟩) HU6.out (hid (fun X hX => clone_any _ B.path X (HP6.out.kept hX) (by omega))) _ ?hk3)
            case hk3 =>
             intro u118 u119 u120 u121 u122 u123 u124 u125 u126 u127 u128 qv w7 w8 hb7 hown hw8
             have HU8 := hid (show AdrIn w8 w1.heap.size { U with scheme := B.scheme, user := B.user, pass := B.pass, host := B.host, hasHost := B.hasHost, port := B.port, opq := B.opq, path := B.path } qv by
              rw [hw8]
              have h1 := (HU6.out.kept hb7).set (v := { U with scheme := B.scheme, user := B.user, pass := B.pass, host := B.host, hasHost := B.hasHost, port := B.port, opq := B.opq }) (qv := .slice none 0 0) 6 (.bool B.opq) rfl
              exact h1.set 7 qv rfl)
             have HR8 := hid (show AdrIn w8 w.heap.size Adr.zero (.slice none 0 0) by rw [hw8]; exact ((HR6.out.kept hb7).set_other hwu 6 _).set_other hwu 7 _)
             have HB8 := hid (show Below w.heap.size w w8 by rw [hw8]; exact ((below2 HB6.out hb7).setCell (p := ⟨w1.heap.size, 6, none⟩) hwl _).setCell (p := ⟨w1.heap.size, 7, none⟩) hwl _)
             have HO8 := hid (show w8.ownsRow w.heap.size 9 1 qv B.path.length (cellsS B.path) by
              rw [hw8]
              exact own_set (own_set (ownsRow_lower hown HB6.out.size) (HU6.out.kept hb7) 6 _) ((HU6.out.kept hb7).set (v := { U with scheme := B.scheme, user := B.user, pass := B.pass, host := B.host, hasHost := B.hasHost, port := B.port, opq := B.opq }) (qv := .slice none 0 0) 6 (.bool B.opq) rfl) 7 _)
             have HC8 := hid (HBs.out.kept HB8.out)
             clear hw8 hb7 hown HU6 HR6 HB6 HC6 HP6
             go_upto_region 17 with fail
             refine wp_reg (rr17 _ _ _ _ _ _ _ _ _ _ _ _ _ _ _ _ _ _ _ _ _ _ _ _ _ _ _ _ _ _ _ _ _ _ _ _ _ _ _ _ _ _ _ _ _ _ _ _ _ _ _ _ _ _ _ _ _ _ _ _ _ _ _ _ _ _ _ _ _ _ _ _ _ _ _ _ _ _ _ _ _ _ _ _ _ _ _ _ _ _ _ _ _ _ _ _ _ _ _ _ _ _ _ _ _ _ _ _ _ _ _ _ _ _ _ _ _ _ _ _ _ _ _ _ _ _ _ _ _ _ _ _ _ _ _ _ _ _ _ _ _ _ _ _ _ _ _ _ _ _ _ _ _ _ _ _ _ _ _ _ _ _ _ _ _ _ _ _ _ _ _ _ _ _ _ _ _ _ _ _ _ _ _ _ _ _ _ _ _ _ _ _ _ _ _ _ _ _ _ _ _ _ _ _ _ _ hbu (⟨HC8.out.cell 8 _ rfl, HC8.out.cell 10 _ rfl⟩) ⟨HU8.out.cell 8 _ rfl, HU8.out.frozen 8, HU8.out.cell 10 _ rfl, HU8.out.frozen 10⟩ _ ?hk4)
             case hk4 =>
              intro u129 u130 u131 u132 u133 u134 u135 u136 u137 u138 w9 hw9
              have HU9 := hid (show AdrIn w9 w1.heap.size { U with scheme := B.scheme, user := B.user, pass := B.pass, host := B.host, hasHost := B.hasHost, port := B.port, opq := B.opq, path := B.path, query := B.query, hasQuery := B.hasQuery } qv by
               rw [hw9]
               have h0 : AdrIn w8.drew w1.heap.size { U with scheme := B.scheme, user := B.user, pass := B.pass, host := B.host, hasHost := B.hasHost, port := B.port, opq := B.opq, path := B.path } qv := HU8.out
               have h1 := h0.set (v := { U with scheme := B.scheme, user := B.user, pass := B.pass, host := B.host, hasHost := B.hasHost, port := B.port, opq := B.opq, path := B.path, query := B.query }) (qv := qv) 8 (.string ⟨B.query.toArray⟩) rfl
               exact h1.set 10 (.bool B.hasQuery) rfl)
              have HR9 := hid (show AdrIn w9 w.heap.size Adr.zero (.slice none 0 0) by
               rw [hw9]
               have h0 : AdrIn w8.drew w.heap.size Adr.zero (.slice none 0 0) := HR8.out
               exact (h0.set_other hwu 8 _).set_other hwu 10 _)
              have HB9 := hid (show Below w.heap.size w w9 by rw [hw9]; exact (HB8.out.drew.setCell (p := ⟨w1.heap.size, 8, none⟩) hwl _).setCell (p := ⟨w1.heap.size, 10, none⟩) hwl _)
              have HO9 := hid (show w9.ownsRow w.heap.size 9 1 qv B.path.length (cellsS B.path) by
               rw [hw9]
               have h0 : AdrIn w8.drew w1.heap.size { U with scheme := B.scheme, user := B.user, pass := B.pass, host := B.host, hasHost := B.hasHost, port := B.port, opq := B.opq, path := B.path } qv := HU8.out
               have h1 := h0.set (v := { U with scheme := B.scheme, user := B.user, pass := B.pass, host := B.host, hasHost := B.hasHost, port := B.port, opq := B.opq, path := B.path, query := B.query }) (qv := qv) 8 (.string ⟨B.query.toArray⟩) rfl
               exact own_set (own_set (ownsRow_same HO8.out fun g hg => rfl) h0 8 _) h1 10 _)
              clear hw9 HU8 HR8 HB8 HC8 HO8
              go_wp2_with fail
              go_step3
              refine HJ2.out _ _ ?_
              rw [← HBP.out, HN2.out]
              apply HSQ.out
              ·exact HG.out
              ·exact HB9.out
              ·exact HR9.out
              ·exact HU9.out
              ·exact Nat.le_refl _
              ·exact hwl
              ·exact hwu
              ·exact HO9.out
              ·exact hAs

end Go.Proofs.YtamockkjbkibdaaGreatDoor

namespace Go.Proofs.YtamockkjbkibdaaGreatDoor
theorem w_take_yes (p : UInt8 → Bool) (l : List UInt8) (h : ∀ c ∈ l, p c = true) : l.takeWhile p = l := by
 induction l with
 | nil => rfl
 | cons c l ih => rw [List.takeWhile_cons, h c (by simp), if_pos rfl, ih fun d hd => h d (by simp [hd])]

theorem w_drop_yes (p : UInt8 → Bool) (l : List UInt8) (h : ∀ c ∈ l, p c = true) : l.dropWhile p = [] := by
 induction l with
 | nil => rfl
 | cons c l ih => rw [List.dropWhile_cons, h c (by simp), if_pos rfl, ih fun d hd => h d (by simp [hd])]

theorem ahead_all (ends l : List UInt8) (h : ∀ c ∈ l, c ∉ ends) : aheadV ends l = (l, []) := by
 have key : ∀ c ∈ l, (!ends.contains c) = true := fun c hc => by simp [h c hc]
 unfold aheadV
 rw [w_take_yes _ l key, w_drop_yes _ l key]

theorem ahead_at (ends a : List UInt8) (c : UInt8) (r : List UInt8) (h : ∀ c ∈ a, c ∉ ends) (hc : c ∈ ends) : aheadV ends (a ++ c :: r) = (a, c :: r) := by
 have hk : (!ends.contains c) = false := by simp [hc]
 have key : ∀ x ∈ a, (!ends.contains x) = true := fun x hx => by simp [h x hx]
 unfold aheadV
 congr 1
 ·rw [takeWhile_stop _ c hk, w_take_yes _ a key]
 ·induction a with
  | nil => rw [List.nil_append, List.dropWhile_cons, hk]; rfl
  | cons x a ih => rw [List.cons_append, List.dropWhile_cons, key x (by simp), if_pos rfl]; exact ih (fun d hd => h d (by simp [hd])) (fun d hd => key d (by simp [hd]))

def paC (c : UInt8) : Bool := decide (33 ≤ c.toNat) && (c != 35 && (c != 63 && c != 92))

def hnC (c : UInt8) : Bool := (decide (97 ≤ c.toNat) && decide (c.toNat ≤ 122)) || ((decide (65 ≤ c.toNat) && decide (c.toNat ≤ 90)) || ((decide (48 ≤ c.toNat) && decide (c.toNat ≤ 57)) || c == 46))

end Go.Proofs.YtamockkjbkibdaaGreatDoor

namespace Go.Proofs.YtamockkjbkibdaaGreatDoor
structure Hd where
 name : List UInt8
 value : List UInt8
deriving DecidableEq

def bndV (l : List UInt8) : Int := if l = [] then -1 else intV l

def bndOk (l : List UInt8) : Bool := l == [] || intOk l

end Go.Proofs.YtamockkjbkibdaaGreatDoor

namespace Go.Proofs.YtamockkjbkibdaaGreatDoor
def Dec (n : Nat) (T : List UInt8) : Prop := T ≠ [] ∧ T.all digP = true ∧ numI T = (n : Int) ∧ T.length ≤ 40

def decC (d : Nat) : UInt8 := UInt8.ofNat (48 + d)

theorem Dec.no {n : Nat} {T : List UInt8} (h : Dec n T) (c : UInt8) (hc : digP c = false) : c ∉ T := by
 intro hm
 have := List.all_eq_true.1 h.2.1 c hm
 rw [hc] at this
 cases this

theorem Dec.int {n : Nat} {T : List UInt8} (h : Dec n T) : bndV T = n ∧ bndOk T = true := by
 have e : (T.all digP && !T.isEmpty) = true := by
  rw [h.2.1]
  have := h.1
  cases T with
  | nil => exact absurd rfl this
  | cons a b => rfl
 constructor
 ·unfold bndV intV
  rw [if_neg h.1, if_pos e, h.2.2.1]
 ·unfold bndOk intOk
  rw [e]; simp

end Go.Proofs.YtamockkjbkibdaaGreatDoor

namespace Go.Proofs.YtamockkjbkibdaaGreatDoor
def WrQ (T : List UInt8) : Prop := ∃ r : List UInt8, T = 113 :: r ∧ ∀ c ∈ r, 97 ≤ c.toNat ∧ c.toNat ≤ 122

theorem WrQ.mem {T : List UInt8} (h : WrQ T) : ∀ c ∈ T, 97 ≤ c.toNat ∧ c.toNat ≤ 122 := fun c hc => by
 obtain ⟨r, rfl, hr⟩ := h
 rcases List.mem_cons.1 hc with rfl | hc
 ·decide
 ·exact hr c hc

theorem small_facts (c : UInt8) (h : 97 ≤ c.toNat ∧ c.toNat ≤ 122) : lowC c = c ∧ hnC c = true ∧ c ≠ 46 ∧ c ≠ 47 ∧ c ≠ 58 ∧ c ≠ 37 ∧ paC c = true ∧ inSetI c.toNat 5 = false ∧ c ≠ 42 ∧ c ≠ 39 := by
 have key : ∀ n < 256, (97 ≤ n ∧ n ≤ 122) → lowC (UInt8.ofNat n) = UInt8.ofNat n ∧ hnC (UInt8.ofNat n) = true ∧ UInt8.ofNat n ≠ 46 ∧ UInt8.ofNat n ≠ 47 ∧ UInt8.ofNat n ≠ 58 ∧ UInt8.ofNat n ≠ 37 ∧ paC (UInt8.ofNat n) = true ∧ inSetI n 5 = false ∧ UInt8.ofNat n ≠ 42 ∧ UInt8.ofNat n ≠ 39 := by decide +kernel
 have e : UInt8.ofNat c.toNat = c := by simp
 have := key c.toNat c.toNat_lt h
 rw [e] at this
 exact this

theorem WrQ.low {T : List UInt8} (h : WrQ T) : low T = T := low_plain _ fun c hc => (small_facts c (h.mem c hc)).1

end Go.Proofs.YtamockkjbkibdaaGreatDoor
