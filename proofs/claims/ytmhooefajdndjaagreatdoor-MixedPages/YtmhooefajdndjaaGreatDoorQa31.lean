/-
  Walks and plain facts that this claim leans on, put together out of 1 texts: Eyf.
-/
import Derived.Test.YtmhooefajdndjaaGreatDoorProg
import Derived.Test.YtmhooefajdndjaaGreatDoorQa1
import Derived.Test.YtmhooefajdndjaaGreatDoorQa3
import Derived.Test.YtmhooefajdndjaaGreatDoorQa6
import Derived.Test.YtmhooefajdndjaaGreatDoorQa8
import Derived.Test.YtmhooefajdndjaaGreatDoorQa9
import Derived.Test.YtmhooefajdndjaaGreatDoorQa11
import Derived.Test.YtmhooefajdndjaaGreatDoorQa12
import Derived.Test.YtmhooefajdndjaaGreatDoorQa13
import Derived.Test.YtmhooefajdndjaaGreatDoorQa15
import Derived.Test.YtmhooefajdndjaaGreatDoorQa18
import Derived.Test.YtmhooefajdndjaaGreatDoorQa22
import Derived.Test.YtmhooefajdndjaaGreatDoorQa24
import Derived.Test.YtmhooefajdndjaaGreatDoorQa25
import Derived.Test.YtmhooefajdndjaaGreatDoorQa26
import Derived.Test.YtmhooefajdndjaaGreatDoorQa27
import Derived.Test.YtmhooefajdndjaaGreatDoorQa28
import Derived.Test.YtmhooefajdndjaaGreatDoorQa30
import Derived.Deep.Cut
import Derived.Deep.QuietTactic
import Derived.BigQuiet
import Derived.BigRegion
import Derived.Deep.RegionHeld
import Derived.Lib.IndexMore
import Derived.Lib.Join
import Derived.Lib.LastIndexByte
import Derived.WalkKit
import Derived.Lib.Strings
import Derived.Lib.UnsafeStr
import Derived.Laws.IdiomStrings
import Derived.Laws.AppendOwn
import Derived.Laws.BitsAllLaws
import Derived.Lib.Bytealg
import Derived.Lib.BufferMore
import Derived.Lib.BufferRead
import Derived.Lib.RuneBytes
import Derived.Laws.RangeAny
import Derived.LoopN
import Derived.RegionTactic
import Derived.Deep.RegionWith
import Derived.OwnWalk
import Derived.Deep.RegionLaw
import Derived.Laws.OwnMore
import Derived.Deep.LoopGhost
import Derived.Shelf.Strings.Builder1
import Derived.Shelf.Strings.Builder2
import Derived.Shelf.Strings.OnBuilder
import Derived.Shelf.Strings.Trim
import Derived.Shelf.Small.Utf8
import Derived.Shelf.Small.Strs
import Derived.Shelf.Small.Wraps
import Derived.Shelf.Strings.BuilderF
import Derived.Shelf.Strings.BuilderK
import Derived.Shelf.Strings.BuilderRune
import Derived.Shelf.Utf8.AppendRune
import Derived.Shelf.Utf8.AppendRunePlain
import Derived.Shelf.Strings.Builder2Cap
import Derived.Shelf.Strconv.Itoa0
import Derived.Shelf.Strconv.Itoa1
import Derived.Shelf.LaysM
import Derived.Shelf.Strconv.Itoa2
import Derived.Shelf.Strconv.Itoa3
import Derived.Shelf.Strings.Search1
import Derived.Shelf.Strings.Search2
import Derived.Shelf.Strings.Search3
import Derived.Shelf.Strings.Cut
import Derived.Shelf.Strings.Count
import Derived.Shelf.Strings.Shaped
import Derived.Shelf.Strings.LastIndex
import Derived.Shelf.Strings.Prefix
import Derived.Shelf.Strings.Split
import Derived.Shelf.Strings.Replace
import Derived.Shelf.Strings.Runes
import Derived.Shelf.Strings.IndexAny
import Derived.Shelf.Strings.AsciiSet
import Derived.Shelf.Strings.IndexAnyAll
import Derived.Shelf.Unicode.DecodeSlow
import Derived.Ground.Names2Prog
import Derived.Shelf.Slices.Clone
import Derived.Ground.SlgnProg
import Derived.Shelf.SlicesE.Clone
import Derived.Laws.AppendOwnNone
import Derived.Scope
import Derived.ScopeJumps
import Derived.WalkMore
import Derived.Lib.IndexAny
import Derived.Lib.Replace
import Derived.Lib.TrimByte
import Derived.Lib.ItoaNum
import Derived.Lib.DecodeN
import Derived.Lib.OthersKept
import Derived.Laws.BytesString
import Derived.Deep.WholeRow
import Derived.Lib.AppendStr
import Derived.WalkSpells
import Derived.WalkLawsBesides
import Derived.Lib.AppendIntMem
import Derived.Lib.SmallJoins
import Derived.WalkSmall
import Derived.Laws.CopyOwn
import Derived.Laws.ResultCell
import Derived.Deep.MidRow
import Derived.Lib.FrozenHead2
import Derived.Lib.Builder
import Derived.Lib.SlTrimSet
import Derived.Below
import Derived.Shelf.Strings.SlTrimAscii
import Derived.Laws.Runes
set_option linter.unusedSimpArgs false
set_option linter.unusedVariables false

namespace Go.Proofs.YtmhooefajdndjaaGreatDoor
open Go.RowKit

theorem or_tt4 {a b : Bool} (h : (a || b) = true) : a = true ∨ b = true := by revert h; cases a <;> cases b <;> decide

set_option maxHeartbeats 16000000 in
set_option maxRecDepth 100000 in
theorem rbad14_any (u : Adr) (pv : Value) (w : World) (hp : PathAt w pv u.path) :
  Calls Tryz.prog 25 #[adrVal u pv] w fun e w' => e = .returned (.bool (badU u)) ∧ Below w.heap.size w w' := by
 rw [← rbad_eq]
 have HPo := hid (fun (X : World) (h : PathAt X pv u.path) => rport_any u pv X h)
 obtain ⟨da, dn, dc, rfl⟩ := path_sl hp
 obtain ⟨d0, d1, d2, d3, d4, d5, d6, d8, d9, d10, d11, hxd, hx0, -, hx5, -⟩ := adr_named u da dn dc
 have hvd : adrVal u (.slice da dn dc) = .agg #[.string d0, .string d1, .string d2, .string d3, .bool d4, .int .i64 d5, .bool d6, .slice da dn dc, .string d8, .string d9, .bool d10, .bool d11] := by unfold adrVal; rw [hxd]
 rw [hvd] at HPo ⊢
 obtain ⟨W1, hW1⟩ : ∃ X, (w.alloc (.cells #[.string d0, .string d1, .string d2, .string d3, .bool d4, .int .i64 d5, .bool d6, .slice da dn dc, .string d8, .string d9, .bool d10, .bool d11] 45)) = X := ⟨_, rfl⟩
 have hbW1 : Below w.heap.size w W1 := by rw [← hW1]; exact (Below.refl _ w).alloc (Nat.le_refl _) _
 have hsW1 : W1.heap.size = w.heap.size + 1 := by rw [← hW1]; simp
 have hAW1 : AdrIn W1 w.heap.size u (.slice da dn dc) := by
  unfold AdrIn
  rw [hxd, ← hW1]
  exact heap_alloc_new w _
 have HB1 := hid hbW1
 have HP1 := hid (hp.kept hbW1)
 obtain ⟨y0, y1, y2, y3, y4, y5, y6, y7, y8, y9, y10, y11⟩ := adr_twelve hxd hAW1
 have HS := hid (fun w => rspecial_any d0 w)
 rw [hx0] at HS
 obtain ⟨sp, hsp⟩ : ∃ q, specV u.scheme = q := ⟨_, rfl⟩
 obtain ⟨n, hn⟩ : ∃ n, hasP u = n := ⟨_, rfl⟩
 obtain ⟨q1, e1⟩ : ∃ q, (d0.toList == [102, 116, 112]) = q := ⟨_, rfl⟩
 have HV0 := hid (show rbadU u = if sp = false ∨ (q1 = true ∧ d5 = -1) then false else badP n by
  have hq : (u.scheme = sFtp) ↔ q1 = true := by rw [← e1, beq_iff_eq, Lib.toList_data, hx0]; rfl
  unfold rbadU
  rw [hsp, hn, ← hx5]
  simp only [hq])
 rw [hsp] at HS
 rw [hn] at HPo
 clear hx0 hx5 hxd hvd hp hbW1 hAW1 hsW1 hsp hn
 cases sp with
 | false =>
  have HV := hid (HV0.out.trans (if_pos (.inl rfl)))
  go_enter Tryz.func25, Tryz.ntmps25
  go_wp2_with fail
  refine (HS.out _).mono ?_
  rintro e wz ⟨rfl, rfl⟩
  go_wp2
  go_ret
  exact ⟨ret_bool HV.out.symm, HB1.out⟩
 | true =>
  cases q1 with
  | false =>
   have HV := hid (HV0.out.trans (if_neg (by simp)))
   go_enter Tryz.func25, Tryz.ntmps25
   go_wp2_with fail
   refine (HS.out _).mono ?_
   rintro e wz ⟨rfl, rfl⟩
   go_wp2_with fail
   refine (HPo.out _ HP1.out).mono ?_
   rintro e w2 ⟨rfl, hb2⟩
   obtain ⟨W3, hW3⟩ : ∃ X, w2.alloc (.cells #[.int .i64 0, .int .i64 1, .int .i64 7, .int .i64 9, .int .i64 11, .int .i64 13, .int .i64 15, .int .i64 17, .int .i64 19, .int .i64 20, .int .i64 21, .int .i64 22, .int .i64 23, .int .i64 25, .int .i64 37, .int .i64 42, .int .i64 43, .int .i64 53, .int .i64 69, .int .i64 77, .int .i64 79, .int .i64 87, .int .i64 95, .int .i64 101, .int .i64 102, .int .i64 103, .int .i64 104, .int .i64 109, .int .i64 110, .int .i64 111, .int .i64 113, .int .i64 115, .int .i64 117, .int .i64 119, .int .i64 123, .int .i64 135, .int .i64 137, .int .i64 139, .int .i64 143, .int .i64 161, .int .i64 179, .int .i64 389, .int .i64 427, .int .i64 465, .int .i64 512, .int .i64 513, .int .i64 514, .int .i64 515, .int .i64 526, .int .i64 530, .int .i64 531, .int .i64 532, .int .i64 540, .int .i64 548, .int .i64 554, .int .i64 556, .int .i64 563, .int .i64 587, .int .i64 601, .int .i64 636, .int .i64 989, .int .i64 990, .int .i64 993, .int .i64 995, .int .i64 1719, .int .i64 1720, .int .i64 1723, .int .i64 2049, .int .i64 3659, .int .i64 4045, .int .i64 4190, .int .i64 5060, .int .i64 5061, .int .i64 6000, .int .i64 6566, .int .i64 6665, .int .i64 6666, .int .i64 6667, .int .i64 6668, .int .i64 6669, .int .i64 6679, .int .i64 6697, .int .i64 10080] 3) = X := ⟨_, rfl⟩
   have HB3 : Hid (Below w.heap.size w W3) := by rw [← hW3]; exact below2 (below2 HB1.out hb2) ((Below.refl _ w2).alloc (Nat.le_refl _) _)
   have HC3 : Hid (∀ k (h : k < badL.length), W3.cell? ⟨w2.heap.size, k, none⟩ = some (.int .i64 badL[k])) := fun k h => by
    have : W3.heap[w2.heap.size]? = some (.cells (badL.map (fun v => Value.int .i64 v)).toArray 3 (0, 0)) := by rw [← hW3]; exact heap_alloc_new w2 _
    rw [Lib.cell_of_heap this]
    simp [h]
   clear hb2
   go_wp2_with fail
   clear hW3
   go_loop [5] (fun i => ∃ k : Nat, k ≤ 83 ∧ i = .int .i64 k ∧ Hid (∀ j, ∀ h : j < badL.length, j < k → badL[j] ≠ n)) (fun i => 83 - (intOf i).toNat)
   case atStart => exact ⟨0, by omega, rfl, fun j _ h => absurd h (by omega)⟩
   case round =>
    obtain ⟨k, hk, rfl, HN⟩ := hrel
    by_cases hlt : k < 83
    ·have hlt' : (k : Int) < 83 := by omega
     have hb : k < badL.length := hlt
     have hc := HC3.out k hb
     obtain ⟨x, hx⟩ : ∃ x, badL[k] = x := ⟨_, rfl⟩
     rw [hx] at hc
     by_cases he : x = n
     ·have HF := hid (show badP n = true from badP_yes (by rw [← he, ← hx]; exact List.getElem_mem _))
      subst he
      clear hx
      go_wp2
      go_ret
      exact ⟨ret_bool (by rw [HV.out, HF.out]), HB3.out⟩
     ·have he' : (x == n) = false := by rw [beq_eq_false_iff_ne]; exact he
      have HE := hid (show badL[k] ≠ n by rw [hx]; exact he)
      clear hx
      go_wp2
      go_round
      case rel =>
       refine ⟨k + 1, by omega, by go_num, fun j hj hjk => ?_⟩
       by_cases h1 : j = k
       ·subst h1; exact HE.out
       ·exact HN.out j hj (by omega)
      case measure => simp [intOf]; omega
    ·have hk83 : k = 83 := by omega
     subst hk83
     have HF := hid (show badP n = false from badP_no fun hm => by
      obtain ⟨j, hj, e⟩ := List.getElem_of_mem hm
      exact HN.out j hj hj e)
     go_wp2
     go_ret
     exact ⟨ret_bool (by rw [HV.out, HF.out]), HB3.out⟩
  | true =>
   by_cases h5 : d5 = -1
   ·have HV := hid (HV0.out.trans (if_pos (.inr ⟨rfl, h5⟩)))
    subst h5
    go_enter Tryz.func25, Tryz.ntmps25
    go_wp2_with fail
    refine (HS.out _).mono ?_
    rintro e wz ⟨rfl, rfl⟩
    go_wp2
    go_ret
    exact ⟨ret_bool HV.out.symm, HB1.out⟩
   ·have HV := hid (HV0.out.trans (if_neg (by simp [h5])))
    have h5' : (d5 == -1) = false := by rw [beq_eq_false_iff_ne]; exact h5
    go_enter Tryz.func25, Tryz.ntmps25
    go_wp2_with fail
    refine (HS.out _).mono ?_
    rintro e wz ⟨rfl, rfl⟩
    go_wp2_with fail
    refine (HPo.out _ HP1.out).mono ?_
    rintro e w2 ⟨rfl, hb2⟩
    obtain ⟨W3, hW3⟩ : ∃ X, w2.alloc (.cells #[.int .i64 0, .int .i64 1, .int .i64 7, .int .i64 9, .int .i64 11, .int .i64 13, .int .i64 15, .int .i64 17, .int .i64 19, .int .i64 20, .int .i64 21, .int .i64 22, .int .i64 23, .int .i64 25, .int .i64 37, .int .i64 42, .int .i64 43, .int .i64 53, .int .i64 69, .int .i64 77, .int .i64 79, .int .i64 87, .int .i64 95, .int .i64 101, .int .i64 102, .int .i64 103, .int .i64 104, .int .i64 109, .int .i64 110, .int .i64 111, .int .i64 113, .int .i64 115, .int .i64 117, .int .i64 119, .int .i64 123, .int .i64 135, .int .i64 137, .int .i64 139, .int .i64 143, .int .i64 161, .int .i64 179, .int .i64 389, .int .i64 427, .int .i64 465, .int .i64 512, .int .i64 513, .int .i64 514, .int .i64 515, .int .i64 526, .int .i64 530, .int .i64 531, .int .i64 532, .int .i64 540, .int .i64 548, .int .i64 554, .int .i64 556, .int .i64 563, .int .i64 587, .int .i64 601, .int .i64 636, .int .i64 989, .int .i64 990, .int .i64 993, .int .i64 995, .int .i64 1719, .int .i64 1720, .int .i64 1723, .int .i64 2049, .int .i64 3659, .int .i64 4045, .int .i64 4190, .int .i64 5060, .int .i64 5061, .int .i64 6000, .int .i64 6566, .int .i64 6665, .int .i64 6666, .int .i64 6667, .int .i64 6668, .int .i64 6669, .int .i64 6679, .int .i64 6697, .int .i64 10080] 3) = X := ⟨_, rfl⟩
    have HB3 : Hid (Below w.heap.size w W3) := by rw [← hW3]; exact below2 (below2 HB1.out hb2) ((Below.refl _ w2).alloc (Nat.le_refl _) _)
    have HC3 : Hid (∀ k (h : k < badL.length), W3.cell? ⟨w2.heap.size, k, none⟩ = some (.int .i64 badL[k])) := fun k h => by
     have : W3.heap[w2.heap.size]? = some (.cells (badL.map (fun v => Value.int .i64 v)).toArray 3 (0, 0)) := by rw [← hW3]; exact heap_alloc_new w2 _
     rw [Lib.cell_of_heap this]
     simp [h]
    clear hb2
    go_wp2_with fail
    clear hW3
    go_loop [5] (fun i => ∃ k : Nat, k ≤ 83 ∧ i = .int .i64 k ∧ Hid (∀ j, ∀ h : j < badL.length, j < k → badL[j] ≠ n)) (fun i => 83 - (intOf i).toNat)
    case atStart => exact ⟨0, by omega, rfl, fun j _ h => absurd h (by omega)⟩
    case round =>
     obtain ⟨k, hk, rfl, HN⟩ := hrel
     by_cases hlt : k < 83
     ·have hlt' : (k : Int) < 83 := by omega
      have hb : k < badL.length := hlt
      have hc := HC3.out k hb
      obtain ⟨x, hx⟩ : ∃ x, badL[k] = x := ⟨_, rfl⟩
      rw [hx] at hc
      by_cases he : x = n
      ·have HF := hid (show badP n = true from badP_yes (by rw [← he, ← hx]; exact List.getElem_mem _))
       subst he
       clear hx
       go_wp2
       go_ret
       exact ⟨ret_bool (by rw [HV.out, HF.out]), HB3.out⟩
      ·have he' : (x == n) = false := by rw [beq_eq_false_iff_ne]; exact he
       have HE := hid (show badL[k] ≠ n by rw [hx]; exact he)
       clear hx
       go_wp2
       go_round
       case rel =>
        refine ⟨k + 1, by omega, by go_num, fun j hj hjk => ?_⟩
        by_cases h1 : j = k
        ·subst h1; exact HE.out
        ·exact HN.out j hj (by omega)
       case measure => simp [intOf]; omega
     ·have hk83 : k = 83 := by omega
      subst hk83
      have HF := hid (show badP n = false from badP_no fun hm => by
       obtain ⟨j, hj, e⟩ := List.getElem_of_mem hm
       exact HN.out j hj hj e)
      go_wp2
      go_ret
      exact ⟨ret_bool (by rw [HV.out, HF.out]), HB3.out⟩

theorem trust_hw {u : Adr} (h : u.scheme = sHttp ∨ u.scheme = sWs) : u.scheme ≠ sBlob ∧ trustV u = (safeS u.scheme || nearV u.host) := by
 have hne : u.scheme ≠ sBlob := by rcases h with h | h <;> rw [h] <;> decide
 refine ⟨hne, ?_⟩
 unfold trustV mT
 rw [if_neg hne]
 rfl

set_option maxHeartbeats 8000000 in
set_option maxRecDepth 100000 in
theorem rjudge14_any (p u : Adr) (qv pv : Value) (dest : Int) (w : World) (hq : PathAt w qv p.path) (hp : PathAt w pv u.path) (ht : TrOk u) :
  Calls Tryz.prog 30 #[adrVal p qv, adrVal u pv, .int .i64 dest] w fun e w' => e = .returned (.int .i64 (judV p u dest)) ∧ Below w.heap.size w w' := by
 have HTr := hid (fun (X : World) (h : PathAt X pv u.path) => rtrusted_any u pv X h ht)
 unfold RtPost at HTr
 obtain ⟨pa, pn, pc, rfl⟩ := path_sl hq
 obtain ⟨p0, p1, p2, p3, p4, p5, p6, p8, p9, p10, p11, hxp, hy0, -, -, -⟩ := adr_named p pa pn pc
 have hvp : adrVal p (.slice pa pn pc) = .agg #[.string p0, .string p1, .string p2, .string p3, .bool p4, .int .i64 p5, .bool p6, .slice pa pn pc, .string p8, .string p9, .bool p10, .bool p11] := by unfold adrVal; rw [hxp]
 rw [hvp]
 obtain ⟨da, dn, dc, rfl⟩ := path_sl hp
 obtain ⟨d0, d1, d2, d3, d4, d5, d6, d8, d9, d10, d11, hxd, hx0, hx3, -, -⟩ := adr_named u da dn dc
 have hvd : adrVal u (.slice da dn dc) = .agg #[.string d0, .string d1, .string d2, .string d3, .bool d4, .int .i64 d5, .bool d6, .slice da dn dc, .string d8, .string d9, .bool d10, .bool d11] := by unfold adrVal; rw [hxd]
 rw [hvd] at HTr ⊢
 obtain ⟨W1, hW1⟩ : ∃ X, (w.alloc (.cells #[.string p0, .string p1, .string p2, .string p3, .bool p4, .int .i64 p5, .bool p6, .slice pa pn pc, .string p8, .string p9, .bool p10, .bool p11] 45)) = X := ⟨_, rfl⟩
 have hbW1 : Below w.heap.size w W1 := by rw [← hW1]; exact (Below.refl _ w).alloc (Nat.le_refl _) _
 have hsW1 : W1.heap.size = w.heap.size + 1 := by rw [← hW1]; simp
 have hAW1 : AdrIn W1 w.heap.size p (.slice pa pn pc) := by
  unfold AdrIn
  rw [hxp, ← hW1]
  exact heap_alloc_new w _
 obtain ⟨W2, hW2⟩ : ∃ X, (W1.alloc (.cells #[.string d0, .string d1, .string d2, .string d3, .bool d4, .int .i64 d5, .bool d6, .slice da dn dc, .string d8, .string d9, .bool d10, .bool d11] 45)) = X := ⟨_, rfl⟩
 have hbW2 : Below W1.heap.size W1 W2 := by rw [← hW2]; exact (Below.refl _ W1).alloc (Nat.le_refl _) _
 have hsW2 : W2.heap.size = W1.heap.size + 1 := by rw [← hW2]; simp
 have hAW2 : AdrIn W2 W1.heap.size u (.slice da dn dc) := by
  unfold AdrIn
  rw [hxd, ← hW2]
  exact heap_alloc_new W1 _
 have hB2 := below2 hbW1 hbW2
 have HB2 := hid hB2
 have HP2 := hid (hp.kept hB2)
 obtain ⟨x0, x1, x2, x3, x4, x5, x6, x7, x8, x9, x10, x11⟩ := adr_twelve hxp (hAW1.kept hbW2)
 obtain ⟨y0, y1, y2, y3, y4, y5, y6, y7, y8, y9, y10, y11⟩ := adr_twelve hxd hAW2
 rw [hsW1] at y0 y1 y2 y3 y4 y5 y6 y7 y8 y9 y10 y11
 have hW2' : W1.alloc (.cells #[.string d0, .string d1, .string d2, .string d3, .bool d4, .int .i64 d5, .bool d6, .slice da dn dc, .string d8, .string d9, .bool d10, .bool d11] 45) = W2 := hW2
 have HA2 := hid hAW2
 rw [hsW1] at HA2
 have HXd := hid hxd
 obtain ⟨tr, htr⟩ : ∃ q, trustV u = q := ⟨_, rfl⟩
 have h3s : d3.size ≤ 4000000000 := by rw [Lib.size_eq, hx3]; have := ht.2.2; omega
 obtain ⟨a6, f6⟩ : ∃ q, Lib.hasPrefix d3.data.toList [91] = q := ⟨_, rfl⟩
 obtain ⟨a7, f7⟩ : ∃ q, numO d3.data.toList = q := ⟨_, rfl⟩
 have HBe : Hid (∀ w : World, Calls Tryz.prog 60 #[.string d3, .string ⟨#[91]⟩] w fun e w' => e = .returned (.bool a6) ∧ w = w') := fun w => by rw [← f6]; exact begins_any d3 ⟨#[91]⟩ w h3s (by decide)
 have HNu := hid (fun w => rnumbers_any d3 w h3s)
 rw [f7] at HNu
 obtain ⟨q1, e1⟩ : ∃ q, (p0.toList == [104, 116, 116, 112, 115]) = q := ⟨_, rfl⟩
 obtain ⟨q2, e2⟩ : ∃ q, (d0.toList == [104, 116, 116, 112]) = q := ⟨_, rfl⟩
 obtain ⟨q3, e3⟩ : ∃ q, (d0.toList == [119, 115]) = q := ⟨_, rfl⟩
 obtain ⟨q4, e4⟩ : ∃ q, decide (dest = 4) = q := ⟨_, rfl⟩
 have n1 : (p0.toList != [104, 116, 116, 112, 115]) = !q1 := by rw [← e1]; rfl
 have n2 : (d0.toList != [104, 116, 116, 112]) = !q2 := by rw [← e2]; rfl
 have n3 : (d0.toList != [119, 115]) = !q3 := by rw [← e3]; rfl
 have HV := hid (show judV p u dest = judT q1 tr q2 q3 q4 (!a6 && !a7) by
  unfold judV nameM
  rw [htr, ← hx3, f6, f7, ← e1, ← e2, ← e3, ← e4, Lib.toList_data, Lib.toList_data, hy0, hx0]
  rfl)
 have hsc : (q2 || q3) = true → u.scheme = sHttp ∨ u.scheme = sWs := fun h => by
  rcases or_tt4 h with h | h
  ·left; rw [← hx0, ← Lib.toList_data]; exact beq_iff_eq.1 (e2.trans h)
  ·right; rw [← hx0, ← Lib.toList_data]; exact beq_iff_eq.1 (e3.trans h)
 have HNb := hid (fun h => (trust_hw (hsc h)).1)
 have HNr := hid (show (q2 || q3) = true → tr = (safeS u.scheme || nearV u.host) from fun h => htr.symm.trans (trust_hw (hsc h)).2)
 clear hx0 hx3 hy0 hxp hvp hxd hvd hp hq ht hbW1 hbW2 hAW1 hAW2 hsW2 hB2 htr f6 f7 h3s hsc
 cases q1 with
 | false =>
  go_enter Tryz.func30, Tryz.ntmps30
  go_wp2
  go_ret
  exact ⟨ret_int (by rw [HV.out]; rfl), HB2.out⟩
 | true =>
  cases q2 with
  | false =>
   cases q3 with
   | false =>
    go_enter Tryz.func30, Tryz.ntmps30
    go_wp2_with fail
    refine (HTr.out _ HP2.out).mono ?_
    rintro e w3 ⟨tb, rfl, htb, hb3⟩
    have HTb := hid htb
    have HB3 := hid (below2 HB2.out hb3)
    obtain ⟨z0, z1, z2, z3, z4, z5, z6, z7, z8, z9, z10, z11⟩ := adr_twelve HXd.out (HA2.out.kept hb3)
    clear hb3 htb
    cases tb with
    | true =>
     go_wp2
     go_ret
     exact ⟨ret_int (by rw [HV.out]; exact (judT_fine _ _ _ _).symm), HB3.out⟩
    | false =>
     go_wp2
     go_ret
     exact ⟨ret_int (by rw [HV.out]; exact (judT_fine _ _ _ _).symm), HB3.out⟩
   | true =>
    go_enter Tryz.func30, Tryz.ntmps30
    go_wp2_with fail
    refine (HTr.out _ HP2.out).mono ?_
    rintro e w3 ⟨tb, rfl, htb, hb3⟩
    have HTb := hid htb
    have HB3 := hid (below2 HB2.out hb3)
    obtain ⟨z0, z1, z2, z3, z4, z5, z6, z7, z8, z9, z10, z11⟩ := adr_twelve HXd.out (HA2.out.kept hb3)
    clear hb3 htb
    obtain rfl : tb = tr := (HTb.out (HNb.out (by simp))).trans (HNr.out (by simp)).symm
    cases tb with
    | true =>
     go_wp2
     go_ret
     exact ⟨ret_int (by rw [HV.out]; rfl), HB3.out⟩
    | false =>
     cases q4 with
     | false =>
      have hd4 : ¬ dest = 4 := of_decide_eq_false e4
      go_wp2
      go_ret
      exact ⟨ret_int (by rw [HV.out]; rfl), HB3.out⟩
     | true =>
      have hd4 : dest = 4 := of_decide_eq_true e4
      subst hd4
      go_wp2
      go_ret
      exact ⟨ret_int (by rw [HV.out]; rfl), HB3.out⟩
  | true =>
   go_enter Tryz.func30, Tryz.ntmps30
   go_wp2_with fail
   refine (HTr.out _ HP2.out).mono ?_
   rintro e w3 ⟨tb, rfl, htb, hb3⟩
   have HTb := hid htb
   have HB3 := hid (below2 HB2.out hb3)
   obtain ⟨z0, z1, z2, z3, z4, z5, z6, z7, z8, z9, z10, z11⟩ := adr_twelve HXd.out (HA2.out.kept hb3)
   clear hb3 htb
   obtain rfl : tb = tr := (HTb.out (HNb.out (by simp))).trans (HNr.out (by simp)).symm
   cases tb with
   | true =>
    go_wp2
    go_ret
    exact ⟨ret_int (by rw [HV.out]; rfl), HB3.out⟩
   | false =>
    cases q4 with
    | false =>
     have hd4 : ¬ dest = 4 := of_decide_eq_false e4
     go_wp2
     go_ret
     exact ⟨ret_int (by rw [HV.out]; rfl), HB3.out⟩
    | true =>
     have hd4 : dest = 4 := of_decide_eq_true e4
     subst hd4
     cases a6 with
     | true =>
      go_wp2_with fail
      refine (HBe.out _).mono ?_
      rintro e wz ⟨rfl, rfl⟩
      go_wp2
      go_ret
      exact ⟨ret_int (by rw [HV.out]; rfl), HB3.out⟩
     | false =>
      go_wp2_with fail
      refine (HBe.out _).mono ?_
      rintro e wz ⟨rfl, rfl⟩
      go_wp2_with fail
      refine (HNu.out _).mono ?_
      rintro e wz ⟨rfl, rfl⟩
      cases a7 with
      | true =>
       go_wp2
       go_ret
       exact ⟨ret_int (by rw [HV.out]; rfl), HB3.out⟩
      | false =>
       go_wp2
       go_ret
       exact ⟨ret_int (by rw [HV.out]; rfl), HB3.out⟩

set_option maxHeartbeats 8000000 in
set_option maxRecDepth 100000 in
theorem rraise14_any (u : Adr) (pv : Value) (w : World) (hp : PathAt w pv u.path) :
  Calls Tryz.prog 33 #[adrVal u pv] w (AnPost (raiV u) w) := by
 obtain ⟨da, dn, dc, rfl⟩ := path_sl hp
 obtain ⟨d0, d1, d2, d3, d4, d5, d6, d8, d9, d10, d11, hxd, hx0, -, hx5, -⟩ := adr_named u da dn dc
 have hvd : adrVal u (.slice da dn dc) = .agg #[.string d0, .string d1, .string d2, .string d3, .bool d4, .int .i64 d5, .bool d6, .slice da dn dc, .string d8, .string d9, .bool d10, .bool d11] := by unfold adrVal; rw [hxd]
 rw [hvd]
 obtain ⟨W1, hW1⟩ : ∃ X, (w.alloc (.cells #[.string d0, .string d1, .string d2, .string d3, .bool d4, .int .i64 d5, .bool d6, .slice da dn dc, .string d8, .string d9, .bool d10, .bool d11] 45)) = X := ⟨_, rfl⟩
 have hbW1 : Below w.heap.size w W1 := by rw [← hW1]; exact (Below.refl _ w).alloc (Nat.le_refl _) _
 have hsW1 : W1.heap.size = w.heap.size + 1 := by rw [← hW1]; simp
 have hAW1 : AdrIn W1 w.heap.size u (.slice da dn dc) := by
  unfold AdrIn
  rw [hxd, ← hW1]
  exact heap_alloc_new w _
 obtain ⟨W4, hW4⟩ : ∃ W2, (W1.alloc (.cells (adrCells Adr.zero (.slice none 0 0)).toArray 45)) = W2 := ⟨_, rfl⟩
 have hb2 : Below W1.heap.size W1 W4 := by rw [← hW4]; exact (Below.refl _ W1).alloc (Nat.le_refl _) _
 have hA2 := hAW1.kept hb2
 have hR2 : AdrIn W4 W1.heap.size Adr.zero (.slice none 0 0) := by rw [← hW4]; exact heap_alloc_new W1 _
 rw [hsW1] at hR2
 have hB2 := below2 hbW1 hb2
 obtain ⟨y0, y1, y2, y3, y4, y5, y6, y7, y8, y9, y10, y11⟩ := adr_twelve hxd hA2
 have HP0 := hid hp
 have HB4 := hid hB2
 have HA4 := hid hA2
 have HR4 := hid hR2
 have HS1 := hid hsW1
 have hW2' : W1.alloc (.cells #[.string ⟨#[]⟩, .string ⟨#[]⟩, .string ⟨#[]⟩, .string ⟨#[]⟩, .bool false, .int .i64 0, .bool false, .slice none 0 0, .string ⟨#[]⟩, .string ⟨#[]⟩, .bool false, .bool false] 45) = W4 := hW4
 have HX0 := hid hx0
 have HX5 := hid hx5
 have HXd := hid hxd
 clear hW4 hp hxd hvd hbW1 hAW1 hb2 hA2 hR2 hB2 hx0 hx5
 obtain ⟨q1, e1⟩ : ∃ q, (d0.toList == [104, 116, 116, 112]) = q := ⟨_, rfl⟩
 obtain ⟨q2, e2⟩ : ∃ q, (d0.toList == [119, 115]) = q := ⟨_, rfl⟩
 have HE1 := hid e1
 have HE2 := hid e2
 cases q1 with
 | true =>
  have HSc := hid (show u.scheme = sHttp by rw [← HX0.out, ← Lib.toList_data]; exact beq_iff_eq.1 HE1.out)
  have f0 := HA4.out.frozen 0
  obtain ⟨W5, hW5⟩ : ∃ X, W4.setCell ⟨w.heap.size, 0, none⟩ (.string ⟨#[104, 116, 116, 112, 115]⟩) = X := ⟨_, rfl⟩
  have hA5 : AdrIn W5 w.heap.size { u with scheme := sHttps } (.slice da dn dc) := by rw [← hW5]; exact HA4.out.set 0 _ rfl
  have hR5 : AdrIn W5 (w.heap.size + 1) Adr.zero (.slice none 0 0) := by rw [← hW5]; exact HR4.out.set_other (by omega) 0 _
  have hB5 : Below w.heap.size w W5 := by rw [← hW5]; exact HB4.out.setCell (p := ⟨w.heap.size, 0, none⟩) (Nat.le_refl _) _
  have hx5' : adrCells { u with scheme := sHttps } (.slice da dn dc) = [.string ⟨#[104, 116, 116, 112, 115]⟩, .string d1, .string d2, .string d3, .bool d4, .int .i64 d5, .bool d6, .slice da dn dc, .string d8, .string d9, .bool d10, .bool d11] := by
   have : adrCells { u with scheme := sHttps } (.slice da dn dc) = (adrCells u (.slice da dn dc)).set 0 (.string ⟨#[104, 116, 116, 112, 115]⟩) := rfl
   rw [this, HXd.out]
   rfl
  have HX5c := hid hx5'
  have HA5 := hid hA5
  have HR5 := hid hR5
  have HB5 := hid hB5
  obtain ⟨v0, v1, v2, v3, v4, v5, v6, v7, v8, v9, v10, v11⟩ := adr_twelve hx5' hA5
  clear hA5 hR5 hB5 hx5'
  by_cases h443 : d5 = 443
  ·subst h443
   have f5 := HA5.out.frozen 5
   obtain ⟨W6, hW6⟩ : ∃ X, W5.setCell ⟨w.heap.size, 5, none⟩ (.int .i64 (-1)) = X := ⟨_, rfl⟩
   have hx6 : adrCells { u with scheme := sHttps, port := -1 } (.slice da dn dc) = [.string ⟨#[104, 116, 116, 112, 115]⟩, .string d1, .string d2, .string d3, .bool d4, .int .i64 (-1), .bool d6, .slice da dn dc, .string d8, .string d9, .bool d10, .bool d11] := by
    have : adrCells { u with scheme := sHttps, port := -1 } (.slice da dn dc) = (adrCells { u with scheme := sHttps } (.slice da dn dc)).set 5 (.int .i64 (-1)) := rfl
    rw [this, HX5c.out]
    rfl
   have HA6 : Hid (AdrIn W6 w.heap.size { u with scheme := sHttps, port := -1 } (.slice da dn dc)) := by rw [← hW6]; exact HA5.out.set 5 _ rfl
   have HR6 : Hid (AdrIn W6 (w.heap.size + 1) Adr.zero (.slice none 0 0)) := by rw [← hW6]; exact HR5.out.set_other (by omega) 5 _
   have HB6 : Hid (Below w.heap.size w W6) := by rw [← hW6]; exact HB5.out.setCell (p := ⟨w.heap.size, 5, none⟩) (Nat.le_refl _) _
   have HX6 := hid hx6
   obtain ⟨g0, g1, g2, g3, g4, g5, g6, g7, g8, g9, g10, g11⟩ := adr_twelve hx6 HA6.out
   clear hx6
   go_enter Tryz.func33, Tryz.ntmps33
   have ry0 := HR6.out.cell 0 _ rfl
   have rz0 := HR6.out.frozen 0
   have ry1 := HR6.out.cell 1 _ rfl
   have rz1 := HR6.out.frozen 1
   have ry2 := HR6.out.cell 2 _ rfl
   have rz2 := HR6.out.frozen 2
   have ry3 := HR6.out.cell 3 _ rfl
   have rz3 := HR6.out.frozen 3
   have ry4 := HR6.out.cell 4 _ rfl
   have rz4 := HR6.out.frozen 4
   have ry5 := HR6.out.cell 5 _ rfl
   have rz5 := HR6.out.frozen 5
   have ry6 := HR6.out.cell 6 _ rfl
   have rz6 := HR6.out.frozen 6
   have ry7 := HR6.out.cell 7 _ rfl
   have rz7 := HR6.out.frozen 7
   have ry8 := HR6.out.cell 8 _ rfl
   have rz8 := HR6.out.frozen 8
   have ry9 := HR6.out.cell 9 _ rfl
   have rz9 := HR6.out.frozen 9
   have ry10 := HR6.out.cell 10 _ rfl
   have rz10 := HR6.out.frozen 10
   have ry11 := HR6.out.cell 11 _ rfl
   have rz11 := HR6.out.frozen 11
   go_wp2_with fail
   have hrg := range_row (HR6.out.store (v := { u with scheme := sHttps, port := -1 }) (qv := .slice da dn dc))
   have hbl := below_setCells (B := w.heap.size) (b := w.heap.size + 1) (Nat.le_succ _) (adrCells { u with scheme := sHttps, port := -1 } (.slice da dn dc)) 0 _ HB6.out
   have how := HP0.out.kept hbl
   have hcs : adrCells { u with scheme := sHttps, port := -1 } (.slice da dn dc) = [.string ⟨#[104, 116, 116, 112, 115]⟩, .string d1, .string d2, .string d3, .bool d4, .int .i64 (-1), .bool d6, .slice da dn dc, .string d8, .string d9, .bool d10, .bool d11] := HX6.out
   have hra : raiV u = { u with scheme := sHttps, port := -1 } := by rw [rai_http u HSc.out, if_pos HX5.out.symm]
   rw [hra]
   refine bodyPost_ret (results_u1 rfl _ _ (w.heap.size + 1) { u with scheme := sHttps, port := -1 } (.slice da dn dc) rfl ?_) rfl ⟨.slice da dn dc, ?_, ?_, ?_⟩
   ·rw [hcs] at hrg ⊢; exact hrg
   ·rfl
   ·rw [hcs] at how; exact how
   ·rw [hcs] at hbl; exact hbl
  ·have h443' : (d5 == 443) = false := by rw [beq_eq_false_iff_ne]; exact h443
   go_enter Tryz.func33, Tryz.ntmps33
   have ry0 := HR5.out.cell 0 _ rfl
   have rz0 := HR5.out.frozen 0
   have ry1 := HR5.out.cell 1 _ rfl
   have rz1 := HR5.out.frozen 1
   have ry2 := HR5.out.cell 2 _ rfl
   have rz2 := HR5.out.frozen 2
   have ry3 := HR5.out.cell 3 _ rfl
   have rz3 := HR5.out.frozen 3
   have ry4 := HR5.out.cell 4 _ rfl
   have rz4 := HR5.out.frozen 4
   have ry5 := HR5.out.cell 5 _ rfl
   have rz5 := HR5.out.frozen 5
   have ry6 := HR5.out.cell 6 _ rfl
   have rz6 := HR5.out.frozen 6
   have ry7 := HR5.out.cell 7 _ rfl
   have rz7 := HR5.out.frozen 7
   have ry8 := HR5.out.cell 8 _ rfl
   have rz8 := HR5.out.frozen 8
   have ry9 := HR5.out.cell 9 _ rfl
   have rz9 := HR5.out.frozen 9
   have ry10 := HR5.out.cell 10 _ rfl
   have rz10 := HR5.out.frozen 10
   have ry11 := HR5.out.cell 11 _ rfl
   have rz11 := HR5.out.frozen 11
   go_wp2_with fail
   have hrg := range_row (HR5.out.store (v := { u with scheme := sHttps }) (qv := .slice da dn dc))
   have hbl := below_setCells (B := w.heap.size) (b := w.heap.size + 1) (Nat.le_succ _) (adrCells { u with scheme := sHttps } (.slice da dn dc)) 0 _ HB5.out
   have how := HP0.out.kept hbl
   have hcs : adrCells { u with scheme := sHttps } (.slice da dn dc) = [.string ⟨#[104, 116, 116, 112, 115]⟩, .string d1, .string d2, .string d3, .bool d4, .int .i64 d5, .bool d6, .slice da dn dc, .string d8, .string d9, .bool d10, .bool d11] := HX5c.out
   have hra : raiV u = { u with scheme := sHttps } := by rw [rai_http u HSc.out, if_neg (by rw [← HX5.out]; exact h443)]
   rw [hra]
   refine bodyPost_ret (results_u1 rfl _ _ (w.heap.size + 1) { u with scheme := sHttps } (.slice da dn dc) rfl ?_) rfl ⟨.slice da dn dc, ?_, ?_, ?_⟩
   ·rw [hcs] at hrg ⊢; exact hrg
   ·rfl
   ·rw [hcs] at how; exact how
   ·rw [hcs] at hbl; exact hbl
 | false =>
  cases q2 with
  | true =>
   have HSc := hid (show u.scheme = sWs by rw [← HX0.out, ← Lib.toList_data]; exact beq_iff_eq.1 HE2.out)
   have f0 := HA4.out.frozen 0
   obtain ⟨W5, hW5⟩ : ∃ X, W4.setCell ⟨w.heap.size, 0, none⟩ (.string ⟨#[119, 115, 115]⟩) = X := ⟨_, rfl⟩
   have hA5 : AdrIn W5 w.heap.size { u with scheme := sWss } (.slice da dn dc) := by rw [← hW5]; exact HA4.out.set 0 _ rfl
   have hR5 : AdrIn W5 (w.heap.size + 1) Adr.zero (.slice none 0 0) := by rw [← hW5]; exact HR4.out.set_other (by omega) 0 _
   have hB5 : Below w.heap.size w W5 := by rw [← hW5]; exact HB4.out.setCell (p := ⟨w.heap.size, 0, none⟩) (Nat.le_refl _) _
   have hx5' : adrCells { u with scheme := sWss } (.slice da dn dc) = [.string ⟨#[119, 115, 115]⟩, .string d1, .string d2, .string d3, .bool d4, .int .i64 d5, .bool d6, .slice da dn dc, .string d8, .string d9, .bool d10, .bool d11] := by
    have : adrCells { u with scheme := sWss } (.slice da dn dc) = (adrCells u (.slice da dn dc)).set 0 (.string ⟨#[119, 115, 115]⟩) := rfl
    rw [this, HXd.out]
    rfl
   have HX5c := hid hx5'
   have HA5 := hid hA5
   have HR5 := hid hR5
   have HB5 := hid hB5
   obtain ⟨v0, v1, v2, v3, v4, v5, v6, v7, v8, v9, v10, v11⟩ := adr_twelve hx5' hA5
   clear hA5 hR5 hB5 hx5'
   by_cases h443 : d5 = 443
   ·subst h443
    have f5 := HA5.out.frozen 5
    obtain ⟨W6, hW6⟩ : ∃ X, W5.setCell ⟨w.heap.size, 5, none⟩ (.int .i64 (-1)) = X := ⟨_, rfl⟩
    have hx6 : adrCells { u with scheme := sWss, port := -1 } (.slice da dn dc) = [.string ⟨#[119, 115, 115]⟩, .string d1, .string d2, .string d3, .bool d4, .int .i64 (-1), .bool d6, .slice da dn dc, .string d8, .string d9, .bool d10, .bool d11] := by
     have : adrCells { u with scheme := sWss, port := -1 } (.slice da dn dc) = (adrCells { u with scheme := sWss } (.slice da dn dc)).set 5 (.int .i64 (-1)) := rfl
     rw [this, HX5c.out]
     rfl
    have HA6 : Hid (AdrIn W6 w.heap.size { u with scheme := sWss, port := -1 } (.slice da dn dc)) := by rw [← hW6]; exact HA5.out.set 5 _ rfl
    have HR6 : Hid (AdrIn W6 (w.heap.size + 1) Adr.zero (.slice none 0 0)) := by rw [← hW6]; exact HR5.out.set_other (by omega) 5 _
    have HB6 : Hid (Below w.heap.size w W6) := by rw [← hW6]; exact HB5.out.setCell (p := ⟨w.heap.size, 5, none⟩) (Nat.le_refl _) _
    have HX6 := hid hx6
    obtain ⟨g0, g1, g2, g3, g4, g5, g6, g7, g8, g9, g10, g11⟩ := adr_twelve hx6 HA6.out
    clear hx6
    go_enter Tryz.func33, Tryz.ntmps33
    have ry0 := HR6.out.cell 0 _ rfl
    have rz0 := HR6.out.frozen 0
    have ry1 := HR6.out.cell 1 _ rfl
    have rz1 := HR6.out.frozen 1
    have ry2 := HR6.out.cell 2 _ rfl
    have rz2 := HR6.out.frozen 2
    have ry3 := HR6.out.cell 3 _ rfl
    have rz3 := HR6.out.frozen 3
    have ry4 := HR6.out.cell 4 _ rfl
    have rz4 := HR6.out.frozen 4
    have ry5 := HR6.out.cell 5 _ rfl
    have rz5 := HR6.out.frozen 5
    have ry6 := HR6.out.cell 6 _ rfl
    have rz6 := HR6.out.frozen 6
    have ry7 := HR6.out.cell 7 _ rfl
    have rz7 := HR6.out.frozen 7
    have ry8 := HR6.out.cell 8 _ rfl
    have rz8 := HR6.out.frozen 8
    have ry9 := HR6.out.cell 9 _ rfl
    have rz9 := HR6.out.frozen 9
    have ry10 := HR6.out.cell 10 _ rfl
    have rz10 := HR6.out.frozen 10
    have ry11 := HR6.out.cell 11 _ rfl
    have rz11 := HR6.out.frozen 11
    go_wp2_with fail
    have hrg := range_row (HR6.out.store (v := { u with scheme := sWss, port := -1 }) (qv := .slice da dn dc))
    have hbl := below_setCells (B := w.heap.size) (b := w.heap.size + 1) (Nat.le_succ _) (adrCells { u with scheme := sWss, port := -1 } (.slice da dn dc)) 0 _ HB6.out
    have how := HP0.out.kept hbl
    have hcs : adrCells { u with scheme := sWss, port := -1 } (.slice da dn dc) = [.string ⟨#[119, 115, 115]⟩, .string d1, .string d2, .string d3, .bool d4, .int .i64 (-1), .bool d6, .slice da dn dc, .string d8, .string d9, .bool d10, .bool d11] := HX6.out
    have hra : raiV u = { u with scheme := sWss, port := -1 } := by rw [rai_ws u HSc.out, if_pos HX5.out.symm]
    rw [hra]
    refine bodyPost_ret (results_u1 rfl _ _ (w.heap.size + 1) { u with scheme := sWss, port := -1 } (.slice da dn dc) rfl ?_) rfl ⟨.slice da dn dc, ?_, ?_, ?_⟩
    ·rw [hcs] at hrg ⊢; exact hrg
    ·rfl
    ·rw [hcs] at how; exact how
    ·rw [hcs] at hbl; exact hbl
   ·have h443' : (d5 == 443) = false := by rw [beq_eq_false_iff_ne]; exact h443
    go_enter Tryz.func33, Tryz.ntmps33
    have ry0 := HR5.out.cell 0 _ rfl
    have rz0 := HR5.out.frozen 0
    have ry1 := HR5.out.cell 1 _ rfl
    have rz1 := HR5.out.frozen 1
    have ry2 := HR5.out.cell 2 _ rfl
    have rz2 := HR5.out.frozen 2
    have ry3 := HR5.out.cell 3 _ rfl
    have rz3 := HR5.out.frozen 3
    have ry4 := HR5.out.cell 4 _ rfl
    have rz4 := HR5.out.frozen 4
    have ry5 := HR5.out.cell 5 _ rfl
    have rz5 := HR5.out.frozen 5
    have ry6 := HR5.out.cell 6 _ rfl
    have rz6 := HR5.out.frozen 6
    have ry7 := HR5.out.cell 7 _ rfl
    have rz7 := HR5.out.frozen 7
    have ry8 := HR5.out.cell 8 _ rfl
    have rz8 := HR5.out.frozen 8
    have ry9 := HR5.out.cell 9 _ rfl
    have rz9 := HR5.out.frozen 9
    have ry10 := HR5.out.cell 10 _ rfl
    have rz10 := HR5.out.frozen 10
    have ry11 := HR5.out.cell 11 _ rfl
    have rz11 := HR5.out.frozen 11
    go_wp2_with fail
    have hrg := range_row (HR5.out.store (v := { u with scheme := sWss }) (qv := .slice da dn dc))
    have hbl := below_setCells (B := w.heap.size) (b := w.heap.size + 1) (Nat.le_succ _) (adrCells { u with scheme := sWss } (.slice da dn dc)) 0 _ HB5.out
    have how := HP0.out.kept hbl
    have hcs : adrCells { u with scheme := sWss } (.slice da dn dc) = [.string ⟨#[119, 115, 115]⟩, .string d1, .string d2, .string d3, .bool d4, .int .i64 d5, .bool d6, .slice da dn dc, .string d8, .string d9, .bool d10, .bool d11] := HX5c.out
    have hra : raiV u = { u with scheme := sWss } := by rw [rai_ws u HSc.out, if_neg (by rw [← HX5.out]; exact h443)]
    rw [hra]
    refine bodyPost_ret (results_u1 rfl _ _ (w.heap.size + 1) { u with scheme := sWss } (.slice da dn dc) rfl ?_) rfl ⟨.slice da dn dc, ?_, ?_, ?_⟩
    ·rw [hcs] at hrg ⊢; exact hrg
    ·rfl
    ·rw [hcs] at how; exact how
    ·rw [hcs] at hbl; exact hbl
  | false =>
   go_enter Tryz.func33, Tryz.ntmps33
   have ry0 := HR4.out.cell 0 _ rfl
   have rz0 := HR4.out.frozen 0
   have ry1 := HR4.out.cell 1 _ rfl
   have rz1 := HR4.out.frozen 1
   have ry2 := HR4.out.cell 2 _ rfl
   have rz2 := HR4.out.frozen 2
   have ry3 := HR4.out.cell 3 _ rfl
   have rz3 := HR4.out.frozen 3
   have ry4 := HR4.out.cell 4 _ rfl
   have rz4 := HR4.out.frozen 4
   have ry5 := HR4.out.cell 5 _ rfl
   have rz5 := HR4.out.frozen 5
   have ry6 := HR4.out.cell 6 _ rfl
   have rz6 := HR4.out.frozen 6
   have ry7 := HR4.out.cell 7 _ rfl
   have rz7 := HR4.out.frozen 7
   have ry8 := HR4.out.cell 8 _ rfl
   have rz8 := HR4.out.frozen 8
   have ry9 := HR4.out.cell 9 _ rfl
   have rz9 := HR4.out.frozen 9
   have ry10 := HR4.out.cell 10 _ rfl
   have rz10 := HR4.out.frozen 10
   have ry11 := HR4.out.cell 11 _ rfl
   have rz11 := HR4.out.frozen 11
   go_wp2_with fail
   have hrg := range_row (HR4.out.store (v := u) (qv := .slice da dn dc))
   have hbl := below_setCells (B := w.heap.size) (b := w.heap.size + 1) (Nat.le_succ _) (adrCells u (.slice da dn dc)) 0 _ HB4.out
   have how := HP0.out.kept hbl
   have hcs : adrCells u (.slice da dn dc) = [.string d0, .string d1, .string d2, .string d3, .bool d4, .int .i64 d5, .bool d6, .slice da dn dc, .string d8, .string d9, .bool d10, .bool d11] := HXd.out
   have hra : raiV u = u := rai_same u (fun h => by have := HE1.out.symm.trans (beq_yes d0 [104, 116, 116, 112] (HX0.out.trans h)); cases this) (fun h => by have := HE2.out.symm.trans (beq_yes d0 [119, 115] (HX0.out.trans h)); cases this)
   rw [hra]
   refine bodyPost_ret (results_u1 rfl _ _ (w.heap.size + 1) u (.slice da dn dc) rfl ?_) rfl ⟨.slice da dn dc, ?_, ?_, ?_⟩
   ·rw [hcs] at hrg ⊢; exact hrg
   ·rfl
   ·rw [hcs] at how; exact how
   ·rw [hcs] at hbl; exact hbl

end Go.Proofs.YtmhooefajdndjaaGreatDoor
