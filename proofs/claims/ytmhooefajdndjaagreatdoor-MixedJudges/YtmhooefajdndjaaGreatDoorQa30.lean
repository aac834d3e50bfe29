/-
  Walks and plain facts that this claim leans on, put together out of 1 texts: Eye.
-/
import Derived.Test.YtmhooefajdndjaaGreatDoorProg
import Derived.Test.YtmhooefajdndjaaGreatDoorQa1
import Derived.Test.YtmhooefajdndjaaGreatDoorQa3
import Derived.Test.YtmhooefajdndjaaGreatDoorQa6
import Derived.Test.YtmhooefajdndjaaGreatDoorQa8
import Derived.Test.YtmhooefajdndjaaGreatDoorQa10
import Derived.Test.YtmhooefajdndjaaGreatDoorQa11
import Derived.Test.YtmhooefajdndjaaGreatDoorQa12
import Derived.Test.YtmhooefajdndjaaGreatDoorQa13
import Derived.Test.YtmhooefajdndjaaGreatDoorQa15
import Derived.Test.YtmhooefajdndjaaGreatDoorQa18
import Derived.Test.YtmhooefajdndjaaGreatDoorQa22
import Derived.Test.YtmhooefajdndjaaGreatDoorQa24
import Derived.Test.YtmhooefajdndjaaGreatDoorQa25
import Derived.Test.YtmhooefajdndjaaGreatDoorQa26
import Derived.Test.YtmhooefajdndjaaGreatDoorQa27
import Derived.Deep.Cut
import Derived.Deep.QuietTactic
import Derived.BigQuiet
import Derived.BigRegion
import Derived.Deep.RegionHeld
import Derived.Lib.IndexMore
import Derived.Lib.Join
import Derived.Lib.LastIndexByte
import Derived.WalkKit
import Derived.Lib.Strings
import Derived.Lib.UnsafeStr
import Derived.Laws.IdiomStrings
import Derived.Laws.AppendOwn
import Derived.Laws.BitsAllLaws
import Derived.Lib.Bytealg
import Derived.Lib.BufferMore
import Derived.Lib.BufferRead
import Derived.Lib.RuneBytes
import Derived.Laws.RangeAny
import Derived.LoopN
import Derived.RegionTactic
import Derived.Deep.RegionWith
import Derived.OwnWalk
import Derived.Deep.RegionLaw
import Derived.Laws.OwnMore
import Derived.Deep.LoopGhost
import Derived.Shelf.Strings.Builder1
import Derived.Shelf.Strings.Builder2
import Derived.Shelf.Strings.OnBuilder
import Derived.Shelf.Strings.Trim
import Derived.Shelf.Small.Utf8
import Derived.Shelf.Small.Strs
import Derived.Shelf.Small.Wraps
import Derived.Shelf.Strings.BuilderF
import Derived.Shelf.Strings.BuilderK
import Derived.Shelf.Strings.BuilderRune
import Derived.Shelf.Utf8.AppendRune
import Derived.Shelf.Utf8.AppendRunePlain
import Derived.Shelf.Strings.Builder2Cap
import Derived.Shelf.Strconv.Itoa0
import Derived.Shelf.Strconv.Itoa1
import Derived.Shelf.LaysM
import Derived.Shelf.Strconv.Itoa2
import Derived.Shelf.Strconv.Itoa3
import Derived.Shelf.Strings.Search1
import Derived.Shelf.Strings.Search2
import Derived.Shelf.Strings.Search3
import Derived.Shelf.Strings.Cut
import Derived.Shelf.Strings.Count
import Derived.Shelf.Strings.Shaped
import Derived.Shelf.Strings.LastIndex
import Derived.Shelf.Strings.Prefix
import Derived.Shelf.Strings.Split
import Derived.Shelf.Strings.Replace
import Derived.Shelf.Strings.Runes
import Derived.Shelf.Strings.IndexAny
import Derived.Shelf.Strings.AsciiSet
import Derived.Shelf.Strings.IndexAnyAll
import Derived.Shelf.Unicode.DecodeSlow
import Derived.Ground.Names2Prog
import Derived.Shelf.Slices.Clone
import Derived.Ground.SlgnProg
import Derived.Shelf.SlicesE.Clone
import Derived.Laws.AppendOwnNone
import Derived.Scope
import Derived.ScopeJumps
import Derived.WalkMore
import Derived.Lib.IndexAny
import Derived.Lib.Replace
import Derived.Lib.TrimByte
import Derived.Lib.ItoaNum
import Derived.Lib.DecodeN
import Derived.Lib.OthersKept
import Derived.Laws.BytesString
import Derived.Deep.WholeRow
import Derived.Lib.AppendStr
import Derived.WalkSpells
import Derived.WalkLawsBesides
import Derived.Lib.AppendIntMem
import Derived.Lib.SmallJoins
import Derived.WalkSmall
import Derived.Laws.CopyOwn
import Derived.Laws.ResultCell
import Derived.Deep.MidRow
import Derived.Lib.FrozenHead2
import Derived.Lib.Builder
import Derived.Lib.SlTrimSet
import Derived.Below
import Derived.Shelf.Strings.SlTrimAscii
import Derived.Laws.Runes
set_option linter.unusedSimpArgs false
set_option linter.unusedVariables false

namespace Go.Proofs.YtmhooefajdndjaaGreatDoor
open Go.RowKit

theorem nuC_dig (c : UInt8) : nuC c = (digitI (c.toNat : Int) || decide ((c.toNat : Int) = 46)) :=
 beq_iff_eq.1 (u8_all (P := fun c => nuC c == (digitI (c.toNat : Int) || decide ((c.toNat : Int) = 46))) (by decide +kernel) c)

set_option maxHeartbeats 2000000 in
set_option maxRecDepth 100000 in
theorem rnumbers_any (h : ByteArray) (w : World) (hh : h.size ≤ 4000000000) :
  Calls Tryz.prog 61 #[.string h] w fun e w' => e = .returned (.bool (numO h.data.toList)) ∧ w = w' := by
 go_enter Tryz.func61, Tryz.ntmps61
 go_wp2
 go_loop [3] (fun i => ∃ k : Nat, k ≤ h.size ∧ i = .int .i64 k ∧ (h.data.toList.take k).all nuC = true) (fun i => h.size - (intOf i).toNat)
 case atStart => exact ⟨0, by omega, rfl, rfl⟩
 case round =>
  obtain ⟨k, hk, rfl, hno⟩ := hrel
  have HN := hid hno
  clear hno
  by_cases hlt : k < h.size
  ·have hlt' : (k : Int) < (h.size : Int) := by omega
   have hb8 : h[k].toNat < 256 := h[k].toNat_lt
   have HD := hid (fun w => rdigit_any (h[k].toNat : Int) w)
   have HT := hid (take_snoc h k hlt)
   have HC := hid (nuC_dig h[k])
   obtain ⟨q1, e1⟩ : ∃ q, digitI (h[k].toNat : Int) = q := ⟨_, rfl⟩
   rw [e1] at HD HC
   have HX := hid (show nuC h[k] = false → numO h.data.toList = false from fun hf => by
    rw [num_all, List.all_eq_false]
    exact ⟨h[k], List.getElem_mem (l := h.data.toList) (n := k) (by simpa using hlt), by rw [hf]; decide⟩)
   clear e1
   cases q1 with
   | true =>
    go_wp2_with (go_at_call 82; refine (HD.out _).mono ?_; rintro e w' ⟨rfl, rfl⟩)
    go_round
    case rel =>
     refine ⟨k + 1, by omega, by go_num, ?_⟩
     rw [HT.out, List.all_append, HN.out, List.all_cons, HC.out]; rfl
    case measure => simp [intOf]; omega
   | false =>
    by_cases h46 : (h[k].toNat : Int) = 46
    ·have n46 : ((h[k].toNat : Int) != 46) = false := by rw [h46]; rfl
     have H46 := hid (decide_eq_true h46)
     clear h46
     go_wp2_with (go_at_call 82; refine (HD.out _).mono ?_; rintro e w' ⟨rfl, rfl⟩)
     go_round
     case rel =>
      refine ⟨k + 1, by omega, by go_num, ?_⟩
      rw [HT.out, List.all_append, HN.out, List.all_cons, HC.out, H46.out]; rfl
     case measure => simp [intOf]; omega
    ·have HF := hid (HX.out (by rw [HC.out, decide_eq_false h46]; rfl))
     go_wp2_with (go_at_call 82; refine (HD.out _).mono ?_; rintro e w' ⟨rfl, rfl⟩)
     go_ret
     exact ⟨ret_bool HF.out.symm, rfl⟩
  ·have hks : k = h.size := by omega
   have HF : Hid (numO h.data.toList = true) := by
    have := HN.out
    rw [num_all]
    rw [hks, List.take_of_length_le (by rw [Lib.size_eq]; exact Nat.le_refl _)] at this
    exact this
   have hlt' : decide ((k : Int) < (h.size : Int)) = false := by rw [decide_eq_false_iff_not]; omega
   clear hks
   go_wp2
   go_ret
   exact ⟨ret_bool HF.out.symm, rfl⟩

set_option maxHeartbeats 4000000 in
set_option maxRecDepth 100000 in
theorem rport_any (u : Adr) (pv : Value) (w : World) (hp : PathAt w pv u.path) :
  Calls Tryz.prog 57 #[adrVal u pv] w fun e w' => e = .returned (.int .i64 (hasP u)) ∧ Below w.heap.size w w' := by
 obtain ⟨da, dn, dc, rfl⟩ := path_sl hp
 obtain ⟨d0, d1, d2, d3, d4, d5, d6, d8, d9, d10, d11, hxd, hx0, hx3, hx5, -⟩ := adr_named u da dn dc
 have hvd : adrVal u (.slice da dn dc) = .agg #[.string d0, .string d1, .string d2, .string d3, .bool d4, .int .i64 d5, .bool d6, .slice da dn dc, .string d8, .string d9, .bool d10, .bool d11] := by unfold adrVal; rw [hxd]
 rw [hvd]
 obtain ⟨W1, hW1⟩ : ∃ X, (w.alloc (.cells #[.string d0, .string d1, .string d2, .string d3, .bool d4, .int .i64 d5, .bool d6, .slice da dn dc, .string d8, .string d9, .bool d10, .bool d11] 45)) = X := ⟨_, rfl⟩
 have hbW1 : Below w.heap.size w W1 := by rw [← hW1]; exact (Below.refl _ w).alloc (Nat.le_refl _) _
 have hsW1 : W1.heap.size = w.heap.size + 1 := by rw [← hW1]; simp
 have hAW1 : AdrIn W1 w.heap.size u (.slice da dn dc) := by
  unfold AdrIn
  rw [hxd, ← hW1]
  exact heap_alloc_new w _
 have HB1 := hid hbW1
 obtain ⟨y0, y1, y2, y3, y4, y5, y6, y7, y8, y9, y10, y11⟩ := adr_twelve hxd hAW1
 have HO := hid (fun w => rown_any d0 w)
 rw [hx0] at HO
 have HV := hid (show hasP u = if d5 = -1 then ownV u.scheme else d5 by unfold hasP; rw [hx5])
 clear hx0 hx3 hx5 hxd hvd hp hbW1 hAW1 hsW1
 by_cases h1 : d5 = -1
 ·subst h1
  go_enter Tryz.func57, Tryz.ntmps57
  go_wp2_with fail
  refine (HO.out _).mono ?_
  rintro e w2 ⟨rfl, rfl⟩
  go_wp2
  go_ret
  exact ⟨ret_int (by rw [HV.out]; simp), HB1.out⟩
 ·go_enter Tryz.func57, Tryz.ntmps57
  go_wp2
  go_ret
  exact ⟨ret_int (by rw [HV.out, if_neg h1]), HB1.out⟩

def RtPost (u : Adr) (w : World) (e : Ending) (w' : World) : Prop := ∃ b, e = .returned (.bool b) ∧ (u.scheme ≠ sBlob → b = (safeS u.scheme || nearV u.host)) ∧ Below w.heap.size w w'

theorem path_one4 {w : World} {a : Option Addr} {n c : Nat} {L : List (List UInt8)} (h : PathAt w (.slice a n c) L) : n = L.length ∧ ∀ x, L = [x] → ∃ b, a = some ⟨b, 0, none⟩ ∧ w.cell? ⟨b, 0, none⟩ = some (.string ⟨x.toArray⟩) ∧ b < w.heap.size := by
 rcases h with ⟨h1, rfl⟩ | ⟨b, cap, h1, h2, h3, h4, h5⟩
 ·cases h1
  exact ⟨rfl, fun x e => by cases e⟩
 ·cases h1
  refine ⟨rfl, fun x e => ?_⟩
  subst e
  exact ⟨b, rfl, h5 0 (by simp), h2⟩

set_option maxHeartbeats 16000000 in
set_option maxRecDepth 100000 in
theorem rtrusted_step (u : Adr) (pv : Value) (w : World) (hp : PathAt w pv u.path) (hf : u.path.flatten.length ≤ 100000) (hh : u.host.length ≤ 1000000)
  (hb : ∀ v, u.scheme = sBlob → u.opq = true → readV u.path.flatten none = .ok v → ∀ (qv : Value) (X : World), PathAt X qv v.path → Calls Tryz.prog 59 #[adrVal v qv] X (RtPost v X)) :
  Calls Tryz.prog 59 #[adrVal u pv] w (RtPost u w) := by
 obtain ⟨da, dn, dc, rfl⟩ := path_sl hp
 obtain ⟨d0, d1, d2, d3, d4, d5, d6, d8, d9, d10, d11, hxd, hx0, hx3, -, hx6⟩ := adr_named u da dn dc
 have hvd : adrVal u (.slice da dn dc) = .agg #[.string d0, .string d1, .string d2, .string d3, .bool d4, .int .i64 d5, .bool d6, .slice da dn dc, .string d8, .string d9, .bool d10, .bool d11] := by unfold adrVal; rw [hxd]
 rw [hvd]
 obtain ⟨W1, hW1⟩ : ∃ X, (w.alloc (.cells #[.string d0, .string d1, .string d2, .string d3, .bool d4, .int .i64 d5, .bool d6, .slice da dn dc, .string d8, .string d9, .bool d10, .bool d11] 45)) = X := ⟨_, rfl⟩
 have hbW1 : Below w.heap.size w W1 := by rw [← hW1]; exact (Below.refl _ w).alloc (Nat.le_refl _) _
 have hsW1 : W1.heap.size = w.heap.size + 1 := by rw [← hW1]; simp
 have hAW1 : AdrIn W1 w.heap.size u (.slice da dn dc) := by
  unfold AdrIn
  rw [hxd, ← hW1]
  exact heap_alloc_new w _
 have HB1 := hid hbW1
 obtain ⟨hn, hone⟩ := path_one4 (hp.kept hbW1)
 obtain ⟨y0, y1, y2, y3, y4, y5, y6, y7, y8, y9, y10, y11⟩ := adr_twelve hxd hAW1
 have h3s : d3.size ≤ 4000000000 := by rw [Lib.size_eq, hx3]; omega
 obtain ⟨a1, f1⟩ : ∃ q, (d3.toList == [108, 111, 99, 97, 108, 104, 111, 115, 116]) = q := ⟨_, rfl⟩
 obtain ⟨a2, f2⟩ : ∃ q, Lib.hasSuffix d3.data.toList [46, 108, 111, 99, 97, 108, 104, 111, 115, 116] = q := ⟨_, rfl⟩
 obtain ⟨a3, f3⟩ : ∃ q, Lib.hasPrefix d3.data.toList [49, 50, 55, 46] = q := ⟨_, rfl⟩
 obtain ⟨a4, f4⟩ : ∃ q, numO d3.data.toList = q := ⟨_, rfl⟩
 obtain ⟨a5, f5⟩ : ∃ q, (d3.toList == [91, 58, 58, 49, 93]) = q := ⟨_, rfl⟩
 have HS : Hid (∀ w : World, Calls Tryz.prog 89 #[.string d3, .string ⟨#[46, 108, 111, 99, 97, 108, 104, 111, 115, 116]⟩] w fun e w' => e = .returned (.bool a2) ∧ w = w') := fun w => by rw [← f2]; exact ends_any d3 ⟨#[46, 108, 111, 99, 97, 108, 104, 111, 115, 116]⟩ w h3s (by decide)
 have HPr : Hid (∀ w : World, Calls Tryz.prog 60 #[.string d3, .string ⟨#[49, 50, 55, 46]⟩] w fun e w' => e = .returned (.bool a3) ∧ w = w') := fun w => by rw [← f3]; exact begins_any d3 ⟨#[49, 50, 55, 46]⟩ w h3s (by decide)
 have HNu := hid (fun w => rnumbers_any d3 w h3s)
 rw [f4] at HNu
 have HNe := hid (show nearV u.host = (a1 || (a2 || (a5 || (a3 && a4)))) by unfold nearV; rw [← f1, ← f2, ← f3, ← f4, ← f5, Lib.toList_data, hx3])
 obtain ⟨q1, eq1⟩ : ∃ q, (d0.toList == [104, 116, 116, 112, 115]) = q := ⟨_, rfl⟩
 obtain ⟨q2, eq2⟩ : ∃ q, (d0.toList == [119, 115, 115]) = q := ⟨_, rfl⟩
 obtain ⟨q3, eq3⟩ : ∃ q, (d0.toList == [100, 97, 116, 97]) = q := ⟨_, rfl⟩
 obtain ⟨q4, eq4⟩ : ∃ q, (d0.toList == [97, 98, 111, 117, 116]) = q := ⟨_, rfl⟩
 obtain ⟨q5, eq5⟩ : ∃ q, (d0.toList == [98, 108, 111, 98]) = q := ⟨_, rfl⟩
 have HV := hid (show safeS u.scheme = (q1 || (q2 || (q3 || q4))) by
  unfold safeS
  rw [← eq1, ← eq2, ← eq3, ← eq4, Lib.toList_data, hx0]
  simp [sHttps, sWss, sData, sAbout])
 have HBl := hid (show (u.scheme = sBlob) ↔ q5 = true by rw [← eq5, beq_iff_eq, Lib.toList_data, hx0]; rfl)
 have HO := hid hx6
 have HN := hid hn
 have HOn := hid hone
 have HIn := hid hb
 have HFl := hid hf
 clear hx0 hx3 hxd hvd hp hbW1 hAW1 hsW1 hx6 hn hone hb hf hh h3s f2 f3 f4
 cases q1 with
 | true =>
  go_enter Tryz.func59, Tryz.ntmps59
  go_wp2
  go_ret
  exact ⟨true, rfl, fun _ => by rw [HV.out]; simp, HB1.out⟩
 | false =>
  cases q2 with
  | true =>
   go_enter Tryz.func59, Tryz.ntmps59
   go_wp2
   go_ret
   exact ⟨true, rfl, fun _ => by rw [HV.out]; simp, HB1.out⟩
  | false =>
   cases q3 with
   | true =>
    go_enter Tryz.func59, Tryz.ntmps59
    go_wp2
    go_ret
    exact ⟨true, rfl, fun _ => by rw [HV.out]; simp, HB1.out⟩
   | false =>
    cases q4 with
    | true =>
     go_enter Tryz.func59, Tryz.ntmps59
     go_wp2
     go_ret
     exact ⟨true, rfl, fun _ => by rw [HV.out]; simp, HB1.out⟩
    | false =>
     cases q5 with
     | false =>
      cases a1 with
      | true =>
       go_enter Tryz.func59, Tryz.ntmps59
       go_wp2
       go_ret
       exact ⟨true, rfl, fun _ => by rw [HV.out, HNe.out]; simp, HB1.out⟩
      | false =>
       cases a2 with
       | true =>
        go_enter Tryz.func59, Tryz.ntmps59
        go_wp2_with fail
        refine (HS.out _).mono ?_
        rintro e wz ⟨rfl, hwz⟩
        rw [← hwz]
        clear hwz
        go_wp2
        go_ret
        exact ⟨true, rfl, fun _ => by rw [HV.out, HNe.out]; simp, HB1.out⟩
       | false =>
        cases a3 with
        | true =>
         cases a4 with
         | true =>
          go_enter Tryz.func59, Tryz.ntmps59
          go_wp2_with fail
          refine (HS.out _).mono ?_
          rintro e wz ⟨rfl, hwz⟩
          rw [← hwz]
          clear hwz
          go_wp2_with fail
          refine (HPr.out _).mono ?_
          rintro e wz ⟨rfl, hwz⟩
          rw [← hwz]
          clear hwz
          go_wp2_with fail
          refine (HNu.out _).mono ?_
          rintro e wz ⟨rfl, hwz⟩
          rw [← hwz]
          clear hwz
          go_wp2
          go_ret
          exact ⟨true, rfl, fun _ => by rw [HV.out, HNe.out]; simp, HB1.out⟩
         | false =>
          go_enter Tryz.func59, Tryz.ntmps59
          go_wp2_with fail
          refine (HS.out _).mono ?_
          rintro e wz ⟨rfl, hwz⟩
          rw [← hwz]
          clear hwz
          go_wp2_with fail
          refine (HPr.out _).mono ?_
          rintro e wz ⟨rfl, hwz⟩
          rw [← hwz]
          clear hwz
          go_wp2_with fail
          refine (HNu.out _).mono ?_
          rintro e wz ⟨rfl, hwz⟩
          rw [← hwz]
          clear hwz
          go_wp2
          go_ret
          exact ⟨a5, rfl, fun _ => by rw [HV.out, HNe.out]; simp, HB1.out⟩
        | false =>
         go_enter Tryz.func59, Tryz.ntmps59
         go_wp2_with fail
         refine (HS.out _).mono ?_
         rintro e wz ⟨rfl, hwz⟩
         rw [← hwz]
         clear hwz
         go_wp2_with fail
         refine (HPr.out _).mono ?_
         rintro e wz ⟨rfl, hwz⟩
         rw [← hwz]
         clear hwz
         go_wp2
         go_ret
         exact ⟨a5, rfl, fun _ => by rw [HV.out, HNe.out]; simp, HB1.out⟩
     | true =>
      cases d6 with
      | false =>
       cases a1 with
       | true =>
        go_enter Tryz.func59, Tryz.ntmps59
        go_wp2
        go_ret
        exact ⟨true, rfl, fun hne => absurd (HBl.out.2 (by first | rfl | trivial)) hne, HB1.out⟩
       | false =>
        cases a2 with
        | true =>
         go_enter Tryz.func59, Tryz.ntmps59
         go_wp2_with fail
         refine (HS.out _).mono ?_
         rintro e wz ⟨rfl, hwz⟩
         rw [← hwz]
         clear hwz
         go_wp2
         go_ret
         exact ⟨true, rfl, fun hne => absurd (HBl.out.2 (by first | rfl | trivial)) hne, HB1.out⟩
        | false =>
         cases a3 with
         | true =>
          cases a4 with
          | true =>
           go_enter Tryz.func59, Tryz.ntmps59
           go_wp2_with fail
           refine (HS.out _).mono ?_
           rintro e wz ⟨rfl, hwz⟩
           rw [← hwz]
           clear hwz
           go_wp2_with fail
           refine (HPr.out _).mono ?_
           rintro e wz ⟨rfl, hwz⟩
           rw [← hwz]
           clear hwz
           go_wp2_with fail
           refine (HNu.out _).mono ?_
           rintro e wz ⟨rfl, hwz⟩
           rw [← hwz]
           clear hwz
           go_wp2
           go_ret
           exact ⟨true, rfl, fun hne => absurd (HBl.out.2 (by first | rfl | trivial)) hne, HB1.out⟩
          | false =>
           go_enter Tryz.func59, Tryz.ntmps59
           go_wp2_with fail
           refine (HS.out _).mono ?_
           rintro e wz ⟨rfl, hwz⟩
           rw [← hwz]
           clear hwz
           go_wp2_with fail
           refine (HPr.out _).mono ?_
           rintro e wz ⟨rfl, hwz⟩
           rw [← hwz]
           clear hwz
           go_wp2_with fail
           refine (HNu.out _).mono ?_
           rintro e wz ⟨rfl, hwz⟩
           rw [← hwz]
           clear hwz
           go_wp2
           go_ret
           exact ⟨a5, rfl, fun hne => absurd (HBl.out.2 (by first | rfl | trivial)) hne, HB1.out⟩
         | false =>
          go_enter Tryz.func59, Tryz.ntmps59
          go_wp2_with fail
          refine (HS.out _).mono ?_
          rintro e wz ⟨rfl, hwz⟩
          rw [← hwz]
          clear hwz
          go_wp2_with fail
          refine (HPr.out _).mono ?_
          rintro e wz ⟨rfl, hwz⟩
          rw [← hwz]
          clear hwz
          go_wp2
          go_ret
          exact ⟨a5, rfl, fun hne => absurd (HBl.out.2 (by first | rfl | trivial)) hne, HB1.out⟩
      | true =>
       by_cases h1 : dn = 1
       ·have hL : ∃ x, u.path = [x] := List.length_eq_one_iff.1 (by rw [← HN.out]; exact h1)
        obtain ⟨x, hx⟩ := hL
        obtain ⟨bb, rfl, hc0, hbb⟩ := HOn.out x hx
        obtain ⟨X, hX⟩ : ∃ X : ByteArray, (⟨x.toArray⟩ : ByteArray) = X := ⟨_, rfl⟩
        have hXl : X.data.toList = x := by rw [← hX]
        have hfx : u.path.flatten = x := by rw [hx]; simp
        have hXs : X.size ≤ 100000 := by rw [Lib.size_eq, hXl, ← hfx]; exact HFl.out
        rw [hX] at hc0
        have HRd := hid (fun w => rparse3_any X w hXs)
        rw [hXl] at HRd
        have HIn2 := hid (fun v => HIn.out v (HBl.out.2 (by first | rfl | trivial)) HO.out.symm)
        rw [hfx] at HIn2
        unfold ReadPost at HRd
        have HEr := hid (show ∀ e, readV x none = .error e → (e == 0) = false from fun e h => err_ne (read_err h))
        generalize readV x none = r at HRd HIn2 HEr
        subst h1
        clear hx hX hXl hfx hXs hbb HIn HOn
        cases r with
        | error z =>
         have hz := HEr.out z rfl
         simp only [numOf, adrOf] at HRd
         go_enter Tryz.func59, Tryz.ntmps59
         go_wp2_with fail
         refine (HRd.out _).mono ?_
         rintro e w2 ⟨qv, rfl, hown, hb2⟩
         obtain ⟨va, vn, vc, rfl⟩ := own_sl hown
         obtain ⟨v0, v1, v2, v3, v4, v5, v6, v8, v9, v10, v11, hxv⟩ := adr_cells Adr.zero va vn vc
         have hvv : adrVal Adr.zero (.slice va vn vc) = .agg #[.string v0, .string v1, .string v2, .string v3, .bool v4, .int .i64 v5, .bool v6, .slice va vn vc, .string v8, .string v9, .bool v10, .bool v11] := by unfold adrVal; rw [hxv]
         rw [hvv]
         obtain ⟨W3, hW3⟩ : ∃ X, (w2.alloc (.cells #[.string v0, .string v1, .string v2, .string v3, .bool v4, .int .i64 v5, .bool v6, .slice va vn vc, .string v8, .string v9, .bool v10, .bool v11] 45)) = X := ⟨_, rfl⟩
         have hbW3 : Below w2.heap.size w2 W3 := by rw [← hW3]; exact (Below.refl _ w2).alloc (Nat.le_refl _) _
         have hsW3 : W3.heap.size = w2.heap.size + 1 := by rw [← hW3]; simp
         have hAW3 : AdrIn W3 w2.heap.size Adr.zero (.slice va vn vc) := by
          unfold AdrIn
          rw [hxv, ← hW3]
          exact heap_alloc_new w2 _
         have HB3 := hid (below2 HB1.out (below2 hb2 hbW3))
         clear hown hb2 hbW3 hAW3 hxv hvv hsW3
         go_wp2
         go_ret
         exact ⟨false, rfl, fun hne => absurd (HBl.out.2 (by first | rfl | trivial)) hne, HB3.out⟩
        | ok v =>
         have HIv := hid (HIn2.out v rfl)
         unfold RtPost at HIv
         simp only [numOf, adrOf] at HRd
         go_enter Tryz.func59, Tryz.ntmps59
         go_wp2_with fail
         refine (HRd.out _).mono ?_
         rintro e w2 ⟨qv, rfl, hown, hb2⟩
         obtain ⟨va, vn, vc, rfl⟩ := own_sl hown
         obtain ⟨v0, v1, v2, v3, v4, v5, v6, v8, v9, v10, v11, hxv⟩ := adr_cells v va vn vc
         have hvv : adrVal v (.slice va vn vc) = .agg #[.string v0, .string v1, .string v2, .string v3, .bool v4, .int .i64 v5, .bool v6, .slice va vn vc, .string v8, .string v9, .bool v10, .bool v11] := by unfold adrVal; rw [hxv]
         rw [hvv]
         obtain ⟨W3, hW3⟩ : ∃ X, (w2.alloc (.cells #[.string v0, .string v1, .string v2, .string v3, .bool v4, .int .i64 v5, .bool v6, .slice va vn vc, .string v8, .string v9, .bool v10, .bool v11] 45)) = X := ⟨_, rfl⟩
         have hbW3 : Below w2.heap.size w2 W3 := by rw [← hW3]; exact (Below.refl _ w2).alloc (Nat.le_refl _) _
         have hsW3 : W3.heap.size = w2.heap.size + 1 := by rw [← hW3]; simp
         have hAW3 : AdrIn W3 w2.heap.size v (.slice va vn vc) := by
          unfold AdrIn
          rw [hxv, ← hW3]
          exact heap_alloc_new w2 _
         have HB3 := hid (below2 HB1.out (below2 hb2 hbW3))
         have HCv := hid (HIv.out _ W3 ((own_path hown).kept hbW3))
         rw [hvv] at HCv
         obtain ⟨z0, z1, z2, z3, z4, z5, z6, z7, z8, z9, z10, z11⟩ := adr_twelve hxv hAW3
         clear hown hb2 hbW3 hAW3 hxv hvv hsW3
         go_wp2_with fail
         refine HCv.out.mono ?_
         rintro e w4 ⟨b4, rfl, -, hb4⟩
         go_wp2
         go_ret
         exact ⟨b4, rfl, fun hne => absurd (HBl.out.2 (by first | rfl | trivial)) hne, below2 HB3.out hb4⟩
       ·have h1' : ((dn : Int) == 1) = false := by rw [beq_eq_false_iff_ne]; omega
        have h1'' : ¬ (dn : Int) = 1 := by omega
        cases a1 with
        | true =>
         go_enter Tryz.func59, Tryz.ntmps59
         go_wp2
         go_ret
         exact ⟨true, rfl, fun hne => absurd (HBl.out.2 (by first | rfl | trivial)) hne, HB1.out⟩
        | false =>
         cases a2 with
         | true =>
          go_enter Tryz.func59, Tryz.ntmps59
          go_wp2_with fail
          refine (HS.out _).mono ?_
          rintro e wz ⟨rfl, hwz⟩
          rw [← hwz]
          clear hwz
          go_wp2
          go_ret
          exact ⟨true, rfl, fun hne => absurd (HBl.out.2 (by first | rfl | trivial)) hne, HB1.out⟩
         | false =>
          cases a3 with
          | true =>
           cases a4 with
           | true =>
            go_enter Tryz.func59, Tryz.ntmps59
            go_wp2_with fail
            refine (HS.out _).mono ?_
            rintro e wz ⟨rfl, hwz⟩
            rw [← hwz]
            clear hwz
            go_wp2_with fail
            refine (HPr.out _).mono ?_
            rintro e wz ⟨rfl, hwz⟩
            rw [← hwz]
            clear hwz
            go_wp2_with fail
            refine (HNu.out _).mono ?_
            rintro e wz ⟨rfl, hwz⟩
            rw [← hwz]
            clear hwz
            go_wp2
            go_ret
            exact ⟨true, rfl, fun hne => absurd (HBl.out.2 (by first | rfl | trivial)) hne, HB1.out⟩
           | false =>
            go_enter Tryz.func59, Tryz.ntmps59
            go_wp2_with fail
            refine (HS.out _).mono ?_
            rintro e wz ⟨rfl, hwz⟩
            rw [← hwz]
            clear hwz
            go_wp2_with fail
            refine (HPr.out _).mono ?_
            rintro e wz ⟨rfl, hwz⟩
            rw [← hwz]
            clear hwz
            go_wp2_with fail
            refine (HNu.out _).mono ?_
            rintro e wz ⟨rfl, hwz⟩
            rw [← hwz]
            clear hwz
            go_wp2
            go_ret
            exact ⟨a5, rfl, fun hne => absurd (HBl.out.2 (by first | rfl | trivial)) hne, HB1.out⟩
          | false =>
           go_enter Tryz.func59, Tryz.ntmps59
           go_wp2_with fail
           refine (HS.out _).mono ?_
           rintro e wz ⟨rfl, hwz⟩
           rw [← hwz]
           clear hwz
           go_wp2_with fail
           refine (HPr.out _).mono ?_
           rintro e wz ⟨rfl, hwz⟩
           rw [← hwz]
           clear hwz
           go_wp2
           go_ret
           exact ⟨a5, rfl, fun hne => absurd (HBl.out.2 (by first | rfl | trivial)) hne, HB1.out⟩

theorem rtrusted_n : ∀ (n : Nat) (u : Adr) (pv : Value) (w : World), mT u ≤ n → PathAt w pv u.path → TrOk u →
  Calls Tryz.prog 59 #[adrVal u pv] w (RtPost u w) := by
 intro n
 induction n with
 | zero =>
  intro u pv w hn hp ht
  exact rtrusted_step u pv w hp ht.2.1 ht.2.2 (fun v h _ _ => by have := mT_inn h; omega)
 | succ n ih =>
  intro u pv w hn hp ht
  refine rtrusted_step u pv w hp ht.2.1 ht.2.2 (fun v h ho hr qv X hX => ih v qv X ?_ hX (slim_tr (parse_slim hr)))
  have := mT_inn h
  have e : innV u = v := by unfold innV; rw [if_pos ⟨h, ho⟩, hr]; rfl
  rw [e] at this
  omega

theorem rtrusted_any (u : Adr) (pv : Value) (w : World) (hp : PathAt w pv u.path) (ht : TrOk u) :
  Calls Tryz.prog 59 #[adrVal u pv] w (RtPost u w) := rtrusted_n _ u pv w (Nat.le_refl _) hp ht

end Go.Proofs.YtmhooefajdndjaaGreatDoor
