/-
  Walks and plain facts that this claim leans on, put together out of 1 texts: Ern2.
-/
import Derived.Test.YtamockkjbkibdaaGreatDoorProg
import Derived.Test.YtamockkjbkibdaaGreatDoorQa1
import Derived.Test.YtamockkjbkibdaaGreatDoorQa2
import Derived.Test.YtamockkjbkibdaaGreatDoorQa3
import Derived.Test.YtamockkjbkibdaaGreatDoorQa4
import Derived.Test.YtamockkjbkibdaaGreatDoorQa5
import Derived.Test.YtamockkjbkibdaaGreatDoorQa6
import Derived.Test.YtamockkjbkibdaaGreatDoorQa7
import Derived.Test.YtamockkjbkibdaaGreatDoorQa8
import Derived.Test.YtamockkjbkibdaaGreatDoorQa9
import Derived.Test.YtamockkjbkibdaaGreatDoorQa10
import Derived.Test.YtamockkjbkibdaaGreatDoorQa11
import Derived.Test.YtamockkjbkibdaaGreatDoorQa12
import Derived.Test.YtamockkjbkibdaaGreatDoorQa13
import Derived.Test.YtamockkjbkibdaaGreatDoorQa14
import Derived.Test.YtamockkjbkibdaaGreatDoorQa15
import Derived.Test.YtamockkjbkibdaaGreatDoorQa16
import Derived.Test.YtamockkjbkibdaaGreatDoorQa17
import Derived.Test.YtamockkjbkibdaaGreatDoorQa18
import Derived.Test.YtamockkjbkibdaaGreatDoorQa19
import Derived.Test.YtamockkjbkibdaaGreatDoorQa20
import Derived.Test.YtamockkjbkibdaaGreatDoorQa21
import Derived.Test.YtamockkjbkibdaaGreatDoorQa22
import Derived.Test.YtamockkjbkibdaaGreatDoorQa23
import Derived.Test.YtamockkjbkibdaaGreatDoorQa24
import Derived.Test.YtamockkjbkibdaaGreatDoorQa25
import Derived.Test.YtamockkjbkibdaaGreatDoorQa26
import Derived.Test.YtamockkjbkibdaaGreatDoorQa27
import Derived.Test.YtamockkjbkibdaaGreatDoorQa28
import Derived.Test.YtamockkjbkibdaaGreatDoorQj3
import Derived.Test.YtamockkjbkibdaaGreatDoorQj4
import Derived.Test.YtamockkjbkibdaaGreatDoorQj5
import Derived.Deep.Cut
import Derived.Deep.QuietTactic
import Derived.BigQuiet
import Derived.BigRegion
import Derived.Deep.RegionHeld
import Derived.Deep.CutRange
import Derived.Lib.IndexMore
import Derived.Lib.Join
import Derived.Lib.LastIndexByte
import Derived.WalkKit
import Derived.Lib.Strings
import Derived.Lib.UnsafeStr
import Derived.Laws.IdiomStrings
import Derived.Laws.AppendOwn
import Derived.Laws.BitsAllLaws
import Derived.Lib.Bytealg
import Derived.Lib.BufferMore
import Derived.Lib.BufferRead
import Derived.Lib.RuneBytes
import Derived.Laws.RangeAny
import Derived.LoopN
import Derived.RegionTactic
import Derived.Deep.RegionWith
import Derived.OwnWalk
import Derived.Deep.RegionLaw
import Derived.Laws.OwnMore
import Derived.Deep.LoopGhost
import Derived.Shelf.Strings.Builder1
import Derived.Shelf.Strings.Builder2
import Derived.Shelf.Strings.OnBuilder
import Derived.Shelf.Strings.Trim
import Derived.Shelf.Small.Utf8
import Derived.Shelf.Small.Strs
import Derived.Shelf.Small.Wraps
import Derived.Shelf.Strings.BuilderF
import Derived.Shelf.Strings.BuilderK
import Derived.Shelf.Strings.BuilderRune
import Derived.Shelf.Utf8.AppendRune
import Derived.Shelf.Utf8.AppendRunePlain
import Derived.Shelf.Strings.Builder2Cap
import Derived.Shelf.Strconv.Itoa0
import Derived.Shelf.Strconv.Itoa1
import Derived.Shelf.LaysM
import Derived.Shelf.Strconv.Itoa2
import Derived.Shelf.Strconv.Itoa3
import Derived.Shelf.Strings.Search1
import Derived.Shelf.Strings.Search2
import Derived.Shelf.Strings.Search3
import Derived.Shelf.Strings.Cut
import Derived.Shelf.Strings.Count
import Derived.Shelf.Strings.Shaped
import Derived.Shelf.Strings.LastIndex
import Derived.Shelf.Strings.Prefix
import Derived.Shelf.Strings.Split
import Derived.Shelf.Strings.Replace
import Derived.Shelf.Strings.Runes
import Derived.Shelf.Strings.IndexAny
import Derived.Shelf.Strings.AsciiSet
import Derived.Shelf.Strings.IndexAnyAll
import Derived.Shelf.Unicode.DecodeSlow
import Derived.Ground.Names2Prog
import Derived.Shelf.Slices.Clone
import Derived.Ground.SlgnProg
import Derived.Shelf.SlicesE.Clone
import Derived.Laws.AppendOwnNone
import Derived.Scope
import Derived.ScopeJumps
import Derived.WalkMore
import Derived.Lib.IndexAny
import Derived.Lib.Replace
import Derived.Lib.TrimByte
import Derived.Lib.ItoaNum
import Derived.Lib.DecodeN
import Derived.Lib.OthersKept
import Derived.Laws.BytesString
import Derived.Deep.WholeRow
import Derived.Lib.AppendStr
import Derived.WalkSpells
import Derived.WalkLawsBesides
import Derived.Lib.AppendIntMem
import Derived.Lib.SmallJoins
import Derived.WalkSmall
import Derived.Laws.CopyOwn
import Derived.Laws.ResultCell
import Derived.Deep.MidRow
import Derived.Lib.FrozenHead2
import Derived.Lib.Builder
import Derived.Lib.SlTrimSet
import Derived.Below
set_option linter.unusedSimpArgs false
set_option linter.unusedVariables false

namespace Go.Proofs.YtamockkjbkibdaaGreatDoor
open Go.RowKit

theorem nr_two {u B : Adr} {x : List UInt8} (hb : ¬ (B.opq = true ∧ x ≠ [])) (hsc : u.scheme = B.scheme) (h : Lib.hasPrefix (slashedV B.scheme x) [47, 47] = true) : nrV u x B = withAuth u (if specV B.scheme then skip47 ((slashedV B.scheme x).drop 2) else (slashedV B.scheme x).drop 2) := by
 have hu : ({ u with scheme := B.scheme } : Adr) = u := by rw [← hsc]
 unfold nrV
 rw [if_neg hb]
 unfold joinV
 simp only
 rw [if_pos h, hu]
 unfold startV
 rw [hsc]
 cases hsp : specV B.scheme with
 | true =>
  rw [if_pos rfl, if_pos rfl]
  have e : slashedV B.scheme x = slashV x := by unfold slashedV; rw [if_pos hsp]
  rw [e] at h ⊢
  rw [slash_idem, skip_two h]
 | false =>
  rw [if_neg (by decide), if_pos h, if_neg (by decide)]

def takeU (u B : Adr) : Adr := { u with user := B.user, pass := B.pass, host := B.host, hasHost := B.hasHost, port := B.port, opq := B.opq }

theorem nr_rest {u B : Adr} {x r : List UInt8} (hb : ¬ (B.opq = true ∧ x ≠ [])) (hsc : u.scheme = B.scheme) (hr : slashedV B.scheme x = r) (h : Lib.hasPrefix r [47, 47] = false) (hxr : r = [] ↔ x = []) (hq : u.query = [] ∧ u.hasQuery = false ∧ u.opq = false) :
  (r = [] → nrV u x B = .ok { takeU u B with path := B.path, query := B.query, hasQuery := B.hasQuery }) ∧
  (r ≠ [] → Lib.hasPrefix r [47] = true → nrV u x B = .ok (withPath (takeU u B) [] r)) ∧
  (r ≠ [] → r.head? = some 63 → nrV u x B = .ok (withQuery { takeU u B with path := B.path } r)) ∧
  (r ≠ [] → Lib.hasPrefix r [47] = false → r.head? ≠ some 63 → nrV u x B = .ok (withQuery { takeU u B with path := pathL B.path.dropLast (cutL 47 (aheadV [63] r).1) } (aheadV [63] r).2)) := by
 have hu : ({ u with scheme := B.scheme } : Adr) = u := by rw [← hsc]
 have hopq : r ≠ [] → B.opq = false := fun hne => by
  cases ho : B.opq with
  | false => rfl
  | true => exact absurd ⟨ho, fun e => hne (hxr.2 e)⟩ hb
 have key : nrV u x B = (if Lib.hasPrefix r [47] then .ok (withPath { u with user := B.user, pass := B.pass, host := B.host, hasHost := B.hasHost, port := B.port } [] r) else if r ≠ [] ∧ r.head? ≠ some 63 then .ok (withPath { u with user := B.user, pass := B.pass, host := B.host, hasHost := B.hasHost, port := B.port } B.path.dropLast r) else .ok (withQuery { u with user := B.user, pass := B.pass, host := B.host, hasHost := B.hasHost, port := B.port, opq := B.opq, path := B.path, query := B.query, hasQuery := B.hasQuery } r)) := by
  unfold nrV
  rw [if_neg hb]
  unfold joinV
  simp only
  rw [hr, h, if_neg (by decide), ← hsc]
 have hv : r ≠ [] → ({ u with user := B.user, pass := B.pass, host := B.host, hasHost := B.hasHost, port := B.port } : Adr) = takeU u B := fun hne => by
  unfold takeU
  rw [hopq hne, ← hq.2.2]
 refine ⟨fun e => ?_, fun hne h47 => ?_, fun hne h63 => ?_, fun hne h47 h63 => ?_⟩
 ·rw [key, e]
  rfl
 ·rw [key, if_pos h47, hv hne]
 ·have h47 : Lib.hasPrefix r [47] = false := by
   cases r with
   | nil => exact absurd rfl hne
   | cons c t =>
    simp at h63
    subst h63
    rfl
  rw [key, h47, if_neg (by decide), if_neg (fun e => e.2 h63)]
  unfold withQuery
  rw [if_neg hne, if_neg hne]
  rfl
 ·rw [key, h47, if_neg (by decide), if_pos ⟨hne, h63⟩, hv hne]
  unfold withPath
  have hp : pathV (specV (takeU u B).scheme) B.path.dropLast (aheadV [63] r).1 = pathL B.path.dropLast (cutL 47 (aheadV [63] r).1) := by
   cases hr0 : r with
   | nil => exact absurd hr0 hne
   | cons c t =>
    rw [hr0] at h47 h63
    have hc63 : c ≠ 63 := fun e => h63 (by rw [e]; rfl)
    have hc47 : c ≠ 47 := fun e => by rw [e] at h47; exact absurd h47 (by simp [Lib.hasPrefix, List.isPrefixOf])
    have e1 : ∃ t', (aheadV [63] (c :: t)).1 = c :: t' := by
     unfold aheadV
     simp [hc63]
    obtain ⟨t', e1⟩ := e1
    rw [e1]
    unfold pathV
    rw [if_neg (by simp)]
    unfold over1
    simp only
    rw [if_neg hc47]
  rw [hp]

theorem own_set7 {w : World} {B n b : Nat} {v : Value} {xs : List Value} {u : Adr} {pv : Value} (h : w.ownsRow B 9 1 v n xs) (hb : AdrIn w b u pv) (j : Nat) (x : Value) : (w.setCell ⟨b, j, none⟩ x).ownsRow B 9 1 v n xs :=
 ownsRow_same h fun g hg => heap_setCell_other _ _ _ _ (own_apart h hb hg)

theorem path_cells0 {w : World} {g : Nat} {L : List (List UInt8)} (h : TxtS w g L) : ∀ (j : Nat) (u : Value), (cellsS L)[j]? = some u → w.cell? ⟨g, j, none⟩ = some u := fun j u hj => by
 have hl : j < L.length := by
  have := (List.getElem?_eq_some_iff.1 hj).1
  rw [cellsS_len] at this; exact this
 have e : (cellsS L)[j]? = some (.string ⟨L[j].toArray⟩) := by simp [cellsS, hl]
 rw [e] at hj
 injection hj with hj
 rw [← hj]
 exact h j hl

theorem ahead_63 {r : List UInt8} (h : r.head? = some 63) : (aheadV [63] r).2 = r := by
 cases r with
 | nil => cases h
 | cons c t =>
  simp at h
  subst h
  rfl

theorem path_drop3 {w : World} {g n cap : Nat} {L : List (List UInt8)} (h : PathAt w (.slice (some ⟨g, 0, none⟩) (n + 1) cap) L) (hn : L.length = n + 1) : PathAt w (.slice (some ⟨g, 0, none⟩) n cap) L.dropLast := by
 rcases h with ⟨h, _⟩ | ⟨b, c, e, h2, h3, h4, h5⟩
 ·cases h
 ·injection e with e1 e2 e3
  injection e1 with e1
  injection e1 with e1
  subst e1 e3
  refine .inr ⟨g, cap, by rw [List.length_dropLast, hn]; rfl, h2, by rw [List.length_dropLast]; omega, h4, fun j hj => ?_⟩
  rw [List.length_dropLast] at hj
  rw [List.getElem_dropLast]
  exact h5 j (by omega)

set_option maxHeartbeats 16000000 in
set_option maxRecDepth 100000 in
theorem rnear_any (X : ByteArray) (b : Nat) (u : Adr) (pv : Value) (B : Adr) (bv : Value) (w : World) (hs : X.size ≤ 100000) (hA : AdrIn w b u pv) (hup : u.user = [] ∧ u.pass = []) (hsc : u.scheme = B.scheme) (hq : u.query = [] ∧ u.hasQuery = false ∧ u.opq = false) (hsl : IsSl bv) (hP : ∀ Z, Below b w Z → PathAt Z bv B.path) (hPl : B.path.length ≤ 100000) :
  Calls Tryz.prog 55 #[.pointer (some ⟨b, 0, none⟩), .string X, adrVal B bv] w (FarPost b (nrV u X.data.toList B) w) := by
 obtain ⟨i0, hi, hz0, hz1, hz2⟩ := info_parts infoStr
 obtain ⟨da, dn, dc, rfl⟩ := hsl
 obtain ⟨d0, d1, d2, d3, d4, d5, d6, d8, d9, d10, d11, hxd, e0, e1, e2, e3, e4, e5, e6, e8, e9, e10, e11⟩ := adr_named4 B da dn dc
 have hvd : adrVal B (.slice da dn dc) = .agg #[.string d0, .string d1, .string d2, .string d3, .bool d4, .int .i64 d5, .bool d6, .slice da dn dc, .string d8, .string d9, .bool d10, .bool d11] := by unfold adrVal; rw [hxd]
 rw [hvd]
 obtain ⟨W1, hW1⟩ : ∃ X, (w.alloc (.cells #[.string d0, .string d1, .string d2, .string d3, .bool d4, .int .i64 d5, .bool d6, .slice da dn dc, .string d8, .string d9, .bool d10, .bool d11] 24)) = X := ⟨_, rfl⟩
 have hbW1 : Below w.heap.size w W1 := by rw [← hW1]; exact (Below.refl _ w).alloc (Nat.le_refl _) _
 have hsW1 : W1.heap.size = w.heap.size + 1 := by rw [← hW1]; simp
 have hAW1 : AdrIn W1 w.heap.size B (.slice da dn dc) := by
  unfold AdrIn
  rw [hxd, ← hW1]
  exact heap_alloc_new w _
 have hlt := hA.lt
 have hne : b ≠ w.heap.size := Nat.ne_of_lt hlt
 have HA1 := hid (hA.kept hbW1)
 have HB1 := hid (hbW1.mono (Nat.le_of_lt hlt))
 have HS1 := hid (Nat.le_of_lt (Nat.lt_of_lt_of_eq (Nat.lt_succ_self _) hsW1.symm))
 have HD1 := hid hAW1
 have HX := hid hxd
 have HLt := hid hlt
 have HNe := hid hne
 have HP := hid hP
 have HE := hid (And.intro e0 (And.intro e1 (And.intro e2 (And.intro e3 (And.intro e4 (And.intro e5 (And.intro e6 (And.intro e8 e10))))))))
 have HSp := hid (fun w => rspecial_any d0 w)
 rw [e0] at HSp
 obtain ⟨sp, hsp⟩ : ∃ q, specV B.scheme = q := ⟨_, rfl⟩
 rw [hsp] at HSp
 have HSpe := hid hsp
 obtain ⟨y0, y1, y2, y3, y4, y5, y6, y7, y8, y9, y10, y11⟩ := adr_twelve hxd hAW1
 obtain ⟨n0, en0⟩ : ∃ q, (X.toList == []) = q := ⟨_, rfl⟩
 have nn0 : (X.toList != []) = !n0 := by rw [← en0]; rfl
 have HN0 := hid (show n0 = true ↔ X.data.toList = [] by rw [← en0, Lib.toList_data]; exact beq_iff_eq)
 clear hvd hxd hAW1 hbW1 hsW1 hP hA e0 e1 e2 e3 e4 e5 e8 e9 e10 e11 hlt hne hsp
 by_cases hbad : B.opq = true ∧ X.data.toList ≠ []
 ·have HN := hid (show nrV u X.data.toList B = .error 12 by unfold nrV; rw [if_pos hbad])
  obtain rfl : d6 = true := by rw [e6]; exact hbad.1
  obtain rfl : n0 = false := by
   cases n0 with
   | false => rfl
   | true => exact absurd (HN0.out.1 rfl) hbad.2
  clear hbad e6
  go_enter Tryz.func55, Tryz.ntmps55
  go_wp2_with fail
  go_ret
  refine ⟨by rw [HN.out]; rfl, HB1.out, fun v hv => by rw [HN.out] at hv; cases hv⟩
 ·have HBad := hid hbad
  have hg6 : d6 = false ∨ n0 = true := by
   cases hd : d6 with
   | false => exact .inl rfl
   | true =>
    right
    refine HN0.out.2 ?_
    by_cases hx : X.data.toList = []
    ·exact hx
    ·exact absurd ⟨by rw [← e6, hd], hx⟩ hbad
  clear hbad e6
  obtain ⟨RR, hRR⟩ : ∃ Z : ByteArray, Z = ⟨(slashedV B.scheme X.data.toList).toArray⟩ := ⟨_, rfl⟩
  have hRl : RR.data.toList = slashedV B.scheme X.data.toList := by rw [hRR]
  have hlen : (slashedV B.scheme X.data.toList).length = X.data.toList.length := by
   unfold slashedV
   split
   ·unfold slashV aheadV
    simp only [List.length_append, List.length_map]
    rw [← List.length_append, List.takeWhile_append_dropWhile]
   ·rfl
  have hRs : RR.size ≤ 100000 := by rw [Lib.size_eq, hRl, hlen, ← Lib.size_eq]; exact hs
  have HRx := hid (show RR.data.toList = [] ↔ X.data.toList = [] by
   rw [hRl, ← List.length_eq_zero_iff, hlen, List.length_eq_zero_iff])
  have HSl := hid (show sp = true → ∀ w : World, Calls Tryz.prog 94 #[.string X] w fun e w' => e = .returned (.string RR) ∧ Below w.heap.size w w' from fun h w => by
   rw [hRR, show slashedV B.scheme X.data.toList = slashV X.data.toList by unfold slashedV; rw [HSpe.out, if_pos h]]
   exact rslashes_any X w (by omega))
  have HSn := hid (show sp = false → RR = X from fun h => by
   refine ba_ext ?_
   rw [hRl]
   unfold slashedV
   rw [HSpe.out, h]
   rfl)
  have HRl := hid hRl
  obtain ⟨p2, hp2⟩ : ∃ q, Lib.hasPrefix RR.data.toList [47, 47] = q := ⟨_, rfl⟩
  have HBe : Hid (∀ w : World, Calls Tryz.prog 95 #[.string RR, .string ⟨#[47, 47]⟩] w fun e w' => e = .returned (.bool p2) ∧ w = w') := fun w => by rw [← hp2]; exact begins_any RR ⟨#[47, 47]⟩ w (by omega) (by decide)
  have HP2 := hid hp2
  clear hRR hRl hlen hp2
  go_enter Tryz.func55, Tryz.ntmps55
  go_upto_region 1 with fail
  go_cut [15] from 10 to 14 (fun x wx => x = .bool false ∧ wx = W1)
  case first =>
   rcases hg6 with rfl | rfl
   ·go_wp2_with fail
    go_meet
    exact ⟨rfl, rfl⟩
   ·cases d6 with
    | false =>
     go_wp2_with fail
     go_meet
     exact ⟨rfl, rfl⟩
    | true =>
     go_wp2_with fail
     go_meet
     exact ⟨rfl, rfl⟩
  case rest =>
   obtain ⟨rfl, hwx⟩ := hcut
   have hwx := hwx.symm
   subst hwx
   clear nn0 en0
   go_wp2_with fail
   refine (HSp.out _).mono ?_
   rintro e wz ⟨rfl, hwz⟩
   rw [← hwz]
   clear hwz
   go_upto_if 18 with fail
   go_cut [1] from 19 to 20 (fun x wx => x = .string RR ∧ Hid (Below W1.heap.size W1 wx))
   case first =>
    cases sp with
    | true =>
     go_wp2_with fail
     refine (HSl.out trivial _).mono ?_
     rintro e w2 ⟨rfl, hb2⟩
     go_wp2_with fail
     go_meet
     exact ⟨rfl, hb2⟩
    | false =>
     have hRX := HSn.out rfl
     go_wp2_with fail
     go_meet
     exact ⟨by rw [hRX], Below.refl _ _⟩
   case rest =>
    obtain ⟨rfl, HQ2⟩ := hcut
    rename World => w2
    have HA2 := hid (HA1.out.kept HQ2.out)
    have HD2 := hid (HD1.out.kept HQ2.out)
    have HB2 := hid (HB1.out.trans (HQ2.out.mono (Nat.le_of_lt HA1.out.lt)))
    have HS2 := hid (Nat.le_trans HS1.out HQ2.out.size)
    clear y0 y1 y2 y3 y4 y5 y6 y7 y8 y9 y10 y11 HSl HSn
    obtain ⟨y0, y1, y2, y3, y4, y5, y6, y7, y8, y9, y10, y11⟩ := adr_twelve HX.out HD2.out
    go_wp2_with fail
    refine (HBe.out _).mono ?_
    rintro e wz ⟨rfl, hwz⟩
    rw [← hwz]
    clear hwz
    cases p2 with
    | true =>
     have h2s : (2 : Int) ≤ (RR.size : Int) := by
      have := List.isPrefixOf_iff_prefix.1 (show [47, 47].isPrefixOf RR.data.toList = true from HP2.out)
      have := this.length_le
      rw [← Lib.size_eq] at this
      simp at this; omega
     obtain ⟨E2, hE2⟩ : ∃ Z : ByteArray, RR.extract 2 RR.size = Z := ⟨_, rfl⟩
     have hE2l : E2.data.toList = RR.data.toList.drop 2 := by rw [← hE2, extract_drop]
     have hE2s : E2.size ≤ 100000 := by rw [← hE2]; simp; omega
     have HN := hid (nr_two (u := u) HBad.out hsc (by rw [← HRl.out]; exact HP2.out))
     rw [← HRl.out, ← hE2l, HSpe.out] at HN
     clear hE2l
     cases sp with
     | true =>
      obtain ⟨E3, hE3⟩ : ∃ Z : ByteArray, Z = ⟨(skip47 E2.data.toList).toArray⟩ := ⟨_, rfl⟩
      have hE3l : E3.data.toList = skip47 E2.data.toList := by rw [hE3]
      have hE3s : E3.size ≤ 100000 := by rw [hE3]; exact size_le (List.dropWhile_suffix _).length_le hE2s
      have HOv : Hid (∀ w : World, Calls Tryz.prog 96 #[.string E2] w fun e w' => e = .returned (.string E3) ∧ w = w') := fun w => by rw [hE3]; exact rover_any E2 w (by omega)
      rw [if_pos rfl, ← hE3l] at HN
      clear hE3 hE3l
      go_wp2_with fail
      refine (HSp.out _).mono ?_
      rintro e wz ⟨rfl, hwz⟩
      rw [← hwz]
      clear hwz
      go_wp2_with fail
      refine (HOv.out _).mono ?_
      rintro e wz ⟨rfl, hwz⟩
      rw [← hwz]
      clear hwz
      go_wp2_with fail
      refine (rfar_any E3 b u pv _ hE3s HA2.out hup).mono ?_
      rintro e w3 hfar
      have HF := hid (hfar.far HB2.out HS2.out)
      obtain ⟨rfl, _⟩ := hfar
      go_wp2
      go_ret
      rw [HN.out]
      exact HF.out
     | false =>
      rw [if_neg (by decide)] at HN
      go_wp2_with fail
      refine (HSp.out _).mono ?_
      rintro e wz ⟨rfl, hwz⟩
      rw [← hwz]
      clear hwz
      go_wp2_with fail
      refine (rfar_any E2 b u pv _ hE2s HA2.out hup).mono ?_
      rintro e w3 hfar
      have HF := hid (hfar.far HB2.out HS2.out)
      obtain ⟨rfl, _⟩ := hfar
      go_wp2
      go_ret
      rw [HN.out]
      exact HF.out
    | false =>
     have hnr := nr_rest (u := u) HBad.out hsc HRl.out.symm HP2.out (by rw [HRx.out]) hq
     have HNr := hid hnr
     clear hnr
     clear y0 y1 y2 y3 y4 y5 y6 y7 y8 y9 y10 y11
     have c1 := HA2.out.cell 1 _ rfl
     have f1 := HA2.out.frozen 1
     have r1 : w2.cell? ⟨w.heap.size, 1, none⟩ = some (.string d1) := HD2.out.cell 1 _ (by rw [HX.out]; rfl)
     obtain ⟨w3, hw3⟩ : ∃ Z, w2.setCell ⟨b, 1, none⟩ (.string d1) = Z := ⟨_, rfl⟩
     have HA3 := hid (show AdrIn w3 b { u with user := d1.data.toList } pv by rw [← hw3]; exact HA2.out.set 1 _ rfl)
     have HD3 := hid (show AdrIn w3 w.heap.size B (.slice da dn dc) by rw [← hw3]; exact HD2.out.set_other HNe.out.symm 1 _)
     have HB3 := hid (show Below b w w3 by rw [← hw3]; exact HB2.out.setCell (p := ⟨b, 1, none⟩) (Nat.le_refl _) _)
     have HS3 := hid (show w.heap.size ≤ w3.heap.size by rw [← hw3]; simpa using HS2.out)
     go_upto_region 11 with fail
     clear hw3 c1 f1 r1
     have c2 := HA3.out.cell 2 _ rfl
     have f2 := HA3.out.frozen 2
     have r2 : w3.cell? ⟨w.heap.size, 2, none⟩ = some (.string d2) := HD3.out.cell 2 _ (by rw [HX.out]; rfl)
     obtain ⟨w4, hw4⟩ : ∃ Z, w3.setCell ⟨b, 2, none⟩ (.string d2) = Z := ⟨_, rfl⟩
     have HA4 := hid (show AdrIn w4 b { u with user := d1.data.toList, pass := d2.data.toList } pv by rw [← hw4]; exact HA3.out.set 2 _ rfl)
     have HD4 := hid (show AdrIn w4 w.heap.size B (.slice da dn dc) by rw [← hw4]; exact HD3.out.set_other HNe.out.symm 2 _)
     have HB4 := hid (show Below b w w4 by rw [← hw4]; exact HB3.out.setCell (p := ⟨b, 2, none⟩) (Nat.le_refl _) _)
     have HS4 := hid (show w.heap.size ≤ w4.heap.size by rw [← hw4]; simpa using HS3.out)
     go_upto_region 12 with fail
     clear hw4 c2 f2 r2
     have c3 := HA4.out.cell 3 _ rfl
     have f3 := HA4.out.frozen 3
     have r3 : w4.cell? ⟨w.heap.size, 3, none⟩ = some (.string d3) := HD4.out.cell 3 _ (by rw [HX.out]; rfl)
     obtain ⟨w5, hw5⟩ : ∃ Z, w4.setCell ⟨b, 3, none⟩ (.string d3) = Z := ⟨_, rfl⟩
     have HA5 := hid (show AdrIn w5 b { u with user := d1.data.toList, pass := d2.data.toList, host := d3.data.toList } pv by rw [← hw5]; exact HA4.out.set 3 _ rfl)
     have HD5 := hid (show AdrIn w5 w.heap.size B (.slice da dn dc) by rw [← hw5]; exact HD4.out.set_other HNe.out.symm 3 _)
     have HB5 := hid (show Below b w w5 by rw [← hw5]; exact HB4.out.setCell (p := ⟨b, 3, none⟩) (Nat.le_refl _) _)
     have HS5 := hid (show w.heap.size ≤ w5.heap.size by rw [← hw5]; simpa using HS4.out)
     go_upto_region 13 with fail
     clear hw5 c3 f3 r3
     have c4 := HA5.out.cell 4 _ rfl
     have f4 := HA5.out.frozen 4
     have r4 : w5.cell? ⟨w.heap.size, 4, none⟩ = some (.bool d4) := HD5.out.cell 4 _ (by rw [HX.out]; rfl)
     obtain ⟨w6, hw6⟩ : ∃ Z, w5.setCell ⟨b, 4, none⟩ (.bool d4) = Z := ⟨_, rfl⟩
     have HA6 := hid (show AdrIn w6 b { u with user := d1.data.toList, pass := d2.data.toList, host := d3.data.toList, hasHost := d4 } pv by rw [← hw6]; exact HA5.out.set 4 _ rfl)
     have HD6 := hid (show AdrIn w6 w.heap.size B (.slice da dn dc) by rw [← hw6]; exact HD5.out.set_other HNe.out.symm 4 _)
     have HB6 := hid (show Below b w w6 by rw [← hw6]; exact HB5.out.setCell (p := ⟨b, 4, none⟩) (Nat.le_refl _) _)
     have HS6 := hid (show w.heap.size ≤ w6.heap.size by rw [← hw6]; simpa using HS5.out)
     go_upto_region 14 with fail
     clear hw6 c4 f4 r4
     have c5 := HA6.out.cell 5 _ rfl
     have f5 := HA6.out.frozen 5
     have r5 : w6.cell? ⟨w.heap.size, 5, none⟩ = some (.int .i64 d5) := HD6.out.cell 5 _ (by rw [HX.out]; rfl)
     obtain ⟨w7, hw7⟩ : ∃ Z, w6.setCell ⟨b, 5, none⟩ (.int .i64 d5) = Z := ⟨_, rfl⟩
     have HA7 := hid (show AdrIn w7 b { u with user := d1.data.toList, pass := d2.data.toList, host := d3.data.toList, hasHost := d4, port := d5 } pv by rw [← hw7]; exact HA6.out.set 5 _ rfl)
     have HD7 := hid (show AdrIn w7 w.heap.size B (.slice da dn dc) by rw [← hw7]; exact HD6.out.set_other HNe.out.symm 5 _)
     have HB7 := hid (show Below b w w7 by rw [← hw7]; exact HB6.out.setCell (p := ⟨b, 5, none⟩) (Nat.le_refl _) _)
     have HS7 := hid (show w.heap.size ≤ w7.heap.size by rw [← hw7]; simpa using HS6.out)
     go_upto_region 15 with fail
     clear hw7 c5 f5 r5
     have c6 := HA7.out.cell 6 _ rfl
     have f6 := HA7.out.frozen 6
     have r6 : w7.cell? ⟨w.heap.size, 6, none⟩ = some (.bool d6) := HD7.out.cell 6 _ (by rw [HX.out]; rfl)
     obtain ⟨w8, hw8⟩ : ∃ Z, w7.setCell ⟨b, 6, none⟩ (.bool d6) = Z := ⟨_, rfl⟩
     have HA8 := hid (show AdrIn w8 b { u with user := d1.data.toList, pass := d2.data.toList, host := d3.data.toList, hasHost := d4, port := d5, opq := d6 } pv by rw [← hw8]; exact HA7.out.set 6 _ rfl)
     have HD8 := hid (show AdrIn w8 w.heap.size B (.slice da dn dc) by rw [← hw8]; exact HD7.out.set_other HNe.out.symm 6 _)
     have HB8 := hid (show Below b w w8 by rw [← hw8]; exact HB7.out.setCell (p := ⟨b, 6, none⟩) (Nat.le_refl _) _)
     have HS8 := hid (show w.heap.size ≤ w8.heap.size by rw [← hw8]; simpa using HS7.out)
     go_upto_region 22 with fail
     clear hw8 c6 f6 r6
     have HTk := hid (show ({ u with user := d1.data.toList, pass := d2.data.toList, host := d3.data.toList, hasHost := d4, port := d5, opq := d6 } : Adr) = takeU u B by
      obtain ⟨e0, e1, e2, e3, e4, e5, e6, e8, e10⟩ := HE.out
      unfold takeU
      rw [e1, e2, e3, e4, e5, e6])
     rw [HTk.out] at HA8
     generalize hT : takeU u B = T at HA8 HNr
     have hTs : T.scheme = u.scheme := by rw [← hT]; rfl
     clear hT HTk
     obtain ⟨n1, en1⟩ : ∃ q, (RR.toList == []) = q := ⟨_, rfl⟩
     have HN1 := hid (show n1 = true ↔ RR.data.toList = [] by rw [← en1, Lib.toList_data]; exact beq_iff_eq)
     cases n1 with
     | true =>
      have hb89 : Below w8.heap.size w8 (w8.alloc (.cells #[] 9)) := (Below.refl _ w8).alloc (Nat.le_refl _) _
      have k7 : (w8.alloc (.cells #[] 9)).cell? ⟨w.heap.size, 7, none⟩ = some (.slice da dn dc) := (HD8.out.kept hb89).cell 7 _ (by rw [HX.out]; rfl)
      rcases HP.out w8 HB8.out with ⟨hva, hnil⟩ | ⟨g, cap, hva, h2, h3, h4, h5⟩
      ·injection hva with hva1 hva2 hva3
       subst hva1 hva2 hva3
       obtain ⟨w9, hw9⟩ : ∃ Z, w8.alloc (.cells #[] 9) = Z := ⟨_, rfl⟩
       have HO9 := hid (show w9.ownsRow w8.heap.size 9 1 (.slice (some ⟨w8.heap.size, 0, none⟩) 0 0) B.path.length (cellsS B.path) by rw [hnil, ← hw9]; exact own_empty w8)
       rw [hw9] at hb89 k7
       have HA9 := hid (HA8.out.kept hb89)
       have HD9 := hid (HD8.out.kept hb89)
       have HB9 := hid (HB8.out.trans (hb89.mono (Nat.le_of_lt HA8.out.lt)))
       have HS9 := hid (Nat.le_trans HS8.out hb89.size)
       have HOe := hid (own_empty w8)
       rw [hw9] at HOe
       have c7 := HA9.out.cell 7 _ rfl
       have f7 := HA9.out.frozen 7
       obtain ⟨w10, hw10⟩ : ∃ Z, w9.setCell ⟨b, 7, none⟩ (.slice (some ⟨w8.heap.size, 0, none⟩) 0 0) = Z := ⟨_, rfl⟩
       have HA10 := hid (show AdrIn w10 b { T with path := B.path } (.slice (some ⟨w8.heap.size, 0, none⟩) 0 0) by rw [← hw10]; exact HA9.out.set 7 _ rfl)
       have HD10 := hid (show AdrIn w10 w.heap.size B (.slice none 0 0) by rw [← hw10]; exact HD9.out.set_other HNe.out.symm 7 _)
       have HO10 := hid (show w10.ownsRow w.heap.size 9 1 (.slice (some ⟨w8.heap.size, 0, none⟩) 0 0) B.path.length (cellsS B.path) by rw [← hw10]; exact own_weak (own_set7 HO9.out HA9.out 7 _) HS8.out)
       have HB10 := hid (show Below b w w10 by rw [← hw10]; exact HB9.out.setCell (p := ⟨b, 7, none⟩) (Nat.le_refl _) _)
       go_upto_region 24 with (at_builtin; go_must (refine wpList_append_own_none rfl _ _ 22 rfl w8.heap.size 9 i0 1 Tryz.underlying22 hi _ _ _ rfl HOe.out rfl ?_))
       clear hw9 hb89 k7 hw10 c7 f7
       have c8 := HA10.out.cell 8 _ rfl
       have f8 := HA10.out.frozen 8
       have r8 : w10.cell? ⟨w.heap.size, 8, none⟩ = some (.string d8) := HD10.out.cell 8 _ (by rw [HX.out]; rfl)
       obtain ⟨w11, hw11⟩ : ∃ Z, w10.setCell ⟨b, 8, none⟩ (.string d8) = Z := ⟨_, rfl⟩
       have HA11 := hid (show AdrIn w11 b { T with path := B.path, query := d8.data.toList } (.slice (some ⟨w8.heap.size, 0, none⟩) 0 0) by rw [← hw11]; exact HA10.out.set 8 _ rfl)
       have HD11 := hid (show AdrIn w11 w.heap.size B (.slice none 0 0) by rw [← hw11]; exact HD10.out.set_other HNe.out.symm 8 _)
       have HO11 := hid (show w11.ownsRow w.heap.size 9 1 (.slice (some ⟨w8.heap.size, 0, none⟩) 0 0) B.path.length (cellsS B.path) by rw [← hw11]; exact own_set7 HO10.out HA10.out 8 _)
       have HB11 := hid (show Below b w w11 by rw [← hw11]; exact HB10.out.setCell (p := ⟨b, 8, none⟩) (Nat.le_refl _) _)
       go_upto_region 25 with fail
       clear hw11 c8 f8 r8
       have c10 := HA11.out.cell 10 _ rfl
       have f10 := HA11.out.frozen 10
       have r10 : w11.cell? ⟨w.heap.size, 10, none⟩ = some (.bool d10) := HD11.out.cell 10 _ (by rw [HX.out]; rfl)
       obtain ⟨w12, hw12⟩ : ∃ Z, w11.setCell ⟨b, 10, none⟩ (.bool d10) = Z := ⟨_, rfl⟩
       have HA12 := hid (show AdrIn w12 b { T with path := B.path, query := d8.data.toList, hasQuery := d10 } (.slice (some ⟨w8.heap.size, 0, none⟩) 0 0) by rw [← hw12]; exact HA11.out.set 10 _ rfl)
       have HO12 := hid (show w12.ownsRow w.heap.size 9 1 (.slice (some ⟨w8.heap.size, 0, none⟩) 0 0) B.path.length (cellsS B.path) by rw [← hw12]; exact own_set7 HO11.out HA11.out 10 _)
       have HB12 := hid (show Below b w w12 by rw [← hw12]; exact HB11.out.setCell (p := ⟨b, 10, none⟩) (Nat.le_refl _) _)
       have HN := hid (HNr.out.1 (HN1.out.1 (by first | rfl | trivial)))
       obtain ⟨e0, e1, e2, e3, e4, e5, e6, e8, e10⟩ := HE.out
       have HEE := hid (And.intro e8 e10)
       clear e0 e1 e2 e3 e4 e5 e6 e8 e10
       go_wp2_with fail
       clear hw12
       go_ret
       rw [HN.out]
       refine ⟨rfl, HB12.out, fun x hx => ?_⟩
       cases hx
       refine ⟨_, ?_, HO12.out⟩
       rw [← HEE.out.1, ← HEE.out.2]
       exact HA12.out
      ·injection hva with hva1 hva2 hva3
       subst hva1 hva2 hva3
       have hlw : w8.heap.size ≤ (w8.alloc (.cells #[] 9)).heap.size := hb89.size
       have h5' : TxtS (w8.alloc (.cells #[] 9)) g B.path := h5.kept hb89
       go_wp2_with (at_builtin; go_must (refine wpList_append_own _ rfl _ _ 22 rfl w8.heap.size 9 i0 (.string ⟨#[]⟩) 1 16 Tryz.underlying22 hi hz0 hz1 hz2 rfl (by decide) _ _ _ rfl (own_empty w8) ⟨g, 0, none⟩ B.path.length dc (cellsS B.path) rfl ?d10 ?d11 ?d12 ?d13 ?d14 ?d15 ?_))
       case d10 => first | (rw [cellsS_len]; done) | (rw [cellsS_len]; omega)
       case d11 => first | exact path_cells h5' | exact path_cells0 h5 | exact path_cells0 h5'
       case d12 => exact cells_one B.path
       case d13 => unfold maxLen; omega
       case d14 => omega
       (try (case d15 => simp))
       intro v' w9 hown' hgrow hnil
       obtain ⟨va, vn, vc, rfl⟩ := own_sl hown'
       have hb9 : Below w8.heap.size w8 w9 := hb89.grown hgrow hlw (fun k hk => by
        have : w8.heap.size = k := by simpa [Value.ownBlock] using hk
        omega)
       have HA9 := hid (HA8.out.kept hb9)
       have HD9 := hid (HD8.out.kept hb9)
       have HO9 := hid (show w9.ownsRow w8.heap.size 9 1 (.slice va vn vc) B.path.length (cellsS B.path) by simpa [cellsS] using hown')
       have HB9 := hid (HB8.out.trans (hb9.mono (Nat.le_of_lt HA8.out.lt)))
       have HS9 := hid (Nat.le_trans HS8.out hb9.size)
       clear hb89 k7 hown' hgrow hnil hb9 hlw h5' h5 h2 h3 h4
       have c7 := HA9.out.cell 7 _ rfl
       have f7 := HA9.out.frozen 7
       obtain ⟨w10, hw10⟩ : ∃ Z, w9.setCell ⟨b, 7, none⟩ (.slice va vn vc) = Z := ⟨_, rfl⟩
       have HA10 := hid (show AdrIn w10 b { T with path := B.path } (.slice va vn vc) by rw [← hw10]; exact HA9.out.set 7 _ rfl)
       have HD10 := hid (show AdrIn w10 w.heap.size B (.slice (some ⟨g, 0, none⟩) B.path.length dc) by rw [← hw10]; exact HD9.out.set_other HNe.out.symm 7 _)
       have HO10 := hid (show w10.ownsRow w.heap.size 9 1 (.slice va vn vc) B.path.length (cellsS B.path) by rw [← hw10]; exact own_weak (own_set7 HO9.out HA9.out 7 _) HS8.out)
       have HB10 := hid (show Below b w w10 by rw [← hw10]; exact HB9.out.setCell (p := ⟨b, 7, none⟩) (Nat.le_refl _) _)
       go_upto_region 24 with fail
       clear hw10 c7 f7
       have c8 := HA10.out.cell 8 _ rfl
       have f8 := HA10.out.frozen 8
       have r8 : w10.cell? ⟨w.heap.size, 8, none⟩ = some (.string d8) := HD10.out.cell 8 _ (by rw [HX.out]; rfl)
       obtain ⟨w11, hw11⟩ : ∃ Z, w10.setCell ⟨b, 8, none⟩ (.string d8) = Z := ⟨_, rfl⟩
       have HA11 := hid (show AdrIn w11 b { T with path := B.path, query := d8.data.toList } (.slice va vn vc) by rw [← hw11]; exact HA10.out.set 8 _ rfl)
       have HD11 := hid (show AdrIn w11 w.heap.size B (.slice (some ⟨g, 0, none⟩) B.path.length dc) by rw [← hw11]; exact HD10.out.set_other HNe.out.symm 8 _)
       have HO11 := hid (show w11.ownsRow w.heap.size 9 1 (.slice va vn vc) B.path.length (cellsS B.path) by rw [← hw11]; exact own_set7 HO10.out HA10.out 8 _)
       have HB11 := hid (show Below b w w11 by rw [← hw11]; exact HB10.out.setCell (p := ⟨b, 8, none⟩) (Nat.le_refl _) _)
       go_upto_region 25 with fail
       clear hw11 c8 f8 r8
       have c10 := HA11.out.cell 10 _ rfl
       have f10 := HA11.out.frozen 10
       have r10 : w11.cell? ⟨w.heap.size, 10, none⟩ = some (.bool d10) := HD11.out.cell 10 _ (by rw [HX.out]; rfl)
       obtain ⟨w12, hw12⟩ : ∃ Z, w11.setCell ⟨b, 10, none⟩ (.bool d10) = Z := ⟨_, rfl⟩
       have HA12 := hid (show AdrIn w12 b { T with path := B.path, query := d8.data.toList, hasQuery := d10 } (.slice va vn vc) by rw [← hw12]; exact HA11.out.set 10 _ rfl)
       have HO12 := hid (show w12.ownsRow w.heap.size 9 1 (.slice va vn vc) B.path.length (cellsS B.path) by rw [← hw12]; exact own_set7 HO11.out HA11.out 10 _)
       have HB12 := hid (show Below b w w12 by rw [← hw12]; exact HB11.out.setCell (p := ⟨b, 10, none⟩) (Nat.le_refl _) _)
       have HN := hid (HNr.out.1 (HN1.out.1 (by first | rfl | trivial)))
       obtain ⟨e0, e1, e2, e3, e4, e5, e6, e8, e10⟩ := HE.out
       have HEE := hid (And.intro e8 e10)
       clear e0 e1 e2 e3 e4 e5 e6 e8 e10
       go_wp2_with fail
       clear hw12
       go_ret
       rw [HN.out]
       refine ⟨rfl, HB12.out, fun x hx => ?_⟩
       cases hx
       refine ⟨_, ?_, HO12.out⟩
       rw [← HEE.out.1, ← HEE.out.2]
       exact HA12.out
     | false =>
      have hRne : RR.data.toList ≠ [] := fun e => by have := HN1.out.2 e; cases this
      have hpos : 0 < RR.size := by rw [Lib.size_eq]; exact List.length_pos_iff.2 hRne
      have hhd : RR.data.toList.head? = some RR[0] := by
       obtain ⟨r, hr⟩ := list_one RR hpos
       rw [hr]; rfl
      by_cases h47 : RR[0] = 47
      ·have e47 : ((RR[0].toNat : Int) == 47) = true := byte_is h47
       have HN := hid (HNr.out.2.1 hRne (by
        obtain ⟨r, hr⟩ := list_one RR hpos
        rw [hr, h47]; rfl))
       clear h47 hhd
       go_wp2_with fail
       refine (rrest_any RR b T pv _ hRs HA8.out).mono ?_
       rintro e w9 ⟨rfl, ho9, pv9, h9, hown9⟩
       have HB9 := hid (HB8.out.trans ho9.1)
       have H9 := hid h9
       have HO9 := hid (own_weak hown9 HS8.out)
       clear ho9 h9 hown9
       go_wp2
       go_ret
       rw [HN.out]
       exact ⟨rfl, HB9.out, fun x hx => by cases hx; exact ⟨pv9, H9.out, HO9.out⟩⟩
      ·have e47 : ((RR[0].toNat : Int) == 47) = false := byte_not h47
       by_cases h63 : RR[0] = 63
       ·have e63 : ((RR[0].toNat : Int) == 63) = true := byte_is h63
        have hb89 : Below w8.heap.size w8 (w8.alloc (.cells #[] 9)) := (Below.refl _ w8).alloc (Nat.le_refl _) _
        have k7 : (w8.alloc (.cells #[] 9)).cell? ⟨w.heap.size, 7, none⟩ = some (.slice da dn dc) := (HD8.out.kept hb89).cell 7 _ (by rw [HX.out]; rfl)
        rcases HP.out w8 HB8.out with ⟨hva, hnil⟩ | ⟨g, cap, hva, h2, h3, h4, h5⟩
        ·injection hva with hva1 hva2 hva3
         subst hva1 hva2 hva3
         obtain ⟨w9, hw9⟩ : ∃ Z, w8.alloc (.cells #[] 9) = Z := ⟨_, rfl⟩
         have HO9 := hid (show w9.ownsRow w8.heap.size 9 1 (.slice (some ⟨w8.heap.size, 0, none⟩) 0 0) B.path.length (cellsS B.path) by rw [hnil, ← hw9]; exact own_empty w8)
         rw [hw9] at hb89 k7
         have HA9 := hid (HA8.out.kept hb89)
         have HD9 := hid (HD8.out.kept hb89)
         have HB9 := hid (HB8.out.trans (hb89.mono (Nat.le_of_lt HA8.out.lt)))
         have HS9 := hid (Nat.le_trans HS8.out hb89.size)
         have HOe := hid (own_empty w8)
         rw [hw9] at HOe
         have c7 := HA9.out.cell 7 _ rfl
         have f7 := HA9.out.frozen 7
         obtain ⟨w10, hw10⟩ : ∃ Z, w9.setCell ⟨b, 7, none⟩ (.slice (some ⟨w8.heap.size, 0, none⟩) 0 0) = Z := ⟨_, rfl⟩
         have HA10 := hid (show AdrIn w10 b { T with path := B.path } (.slice (some ⟨w8.heap.size, 0, none⟩) 0 0) by rw [← hw10]; exact HA9.out.set 7 _ rfl)
         have HD10 := hid (show AdrIn w10 w.heap.size B (.slice none 0 0) by rw [← hw10]; exact HD9.out.set_other HNe.out.symm 7 _)
         have HO10 := hid (show w10.ownsRow w.heap.size 9 1 (.slice (some ⟨w8.heap.size, 0, none⟩) 0 0) B.path.length (cellsS B.path) by rw [← hw10]; exact own_weak (own_set7 HO9.out HA9.out 7 _) HS8.out)
         have HB10 := hid (show Below b w w10 by rw [← hw10]; exact HB9.out.setCell (p := ⟨b, 7, none⟩) (Nat.le_refl _) _)
         go_upto_region 30 with (at_builtin; go_must (refine wpList_append_own_none rfl _ _ 22 rfl w8.heap.size 9 i0 1 Tryz.underlying22 hi _ _ _ rfl HOe.out rfl ?_))
         clear hw9 hb89 k7 hw10 c7 f7
         have HN := hid (HNr.out.2.2.1 hRne (by rw [hhd, h63]))
         have ha63 := ahead_63 (show RR.data.toList.head? = some 63 by rw [hhd, h63])
         have HQy := hid (rquery_any RR b { T with path := B.path } (.slice (some ⟨w8.heap.size, 0, none⟩) 0 0) w10 hRs HA10.out)
         rw [ha63] at HQy
         have HPp := hid (show (withQuery { T with path := B.path } RR.data.toList).path = B.path by unfold withQuery; split <;> rfl)
         clear ha63 hhd h63 h47
         go_wp2_with fail
         refine HQy.out.mono ?_
         rintro e w11 ⟨rfl, ho11, hA11⟩
         have HO11 := hid (own_only HO10.out HA10.out ho11)
         have HB11 := hid (HB10.out.trans ho11.1)
         have HA11 := hid hA11
         clear ho11 hA11
         go_wp2
         go_ret
         rw [HN.out]
         refine ⟨rfl, HB11.out, fun x hx => ?_⟩
         cases hx
         exact ⟨_, HA11.out, by rw [HPp.out]; exact HO11.out⟩
        ·injection hva with hva1 hva2 hva3
         subst hva1 hva2 hva3
         have hlw : w8.heap.size ≤ (w8.alloc (.cells #[] 9)).heap.size := hb89.size
         have h5' : TxtS (w8.alloc (.cells #[] 9)) g B.path := h5.kept hb89
         go_wp2_with (at_builtin; go_must (refine wpList_append_own _ rfl _ _ 22 rfl w8.heap.size 9 i0 (.string ⟨#[]⟩) 1 16 Tryz.underlying22 hi hz0 hz1 hz2 rfl (by decide) _ _ _ rfl (own_empty w8) ⟨g, 0, none⟩ B.path.length dc (cellsS B.path) rfl ?d20 ?d21 ?d22 ?d23 ?d24 ?d25 ?_))
         case d20 => first | (rw [cellsS_len]; done) | (rw [cellsS_len]; omega)
         case d21 => first | exact path_cells h5' | exact path_cells0 h5 | exact path_cells0 h5'
         case d22 => exact cells_one B.path
         case d23 => unfold maxLen; omega
         case d24 => omega
         (try (case d25 => simp))
         intro v' w9 hown' hgrow hnil
         obtain ⟨va, vn, vc, rfl⟩ := own_sl hown'
         have hb9 : Below w8.heap.size w8 w9 := hb89.grown hgrow hlw (fun k hk => by
          have : w8.heap.size = k := by simpa [Value.ownBlock] using hk
          omega)
         have HA9 := hid (HA8.out.kept hb9)
         have HD9 := hid (HD8.out.kept hb9)
         have HO9 := hid (show w9.ownsRow w8.heap.size 9 1 (.slice va vn vc) B.path.length (cellsS B.path) by simpa [cellsS] using hown')
         have HB9 := hid (HB8.out.trans (hb9.mono (Nat.le_of_lt HA8.out.lt)))
         have HS9 := hid (Nat.le_trans HS8.out hb9.size)
         clear hb89 k7 hown' hgrow hnil hb9 hlw h5' h5 h2 h3 h4
         have c7 := HA9.out.cell 7 _ rfl
         have f7 := HA9.out.frozen 7
         obtain ⟨w10, hw10⟩ : ∃ Z, w9.setCell ⟨b, 7, none⟩ (.slice va vn vc) = Z := ⟨_, rfl⟩
         have HA10 := hid (show AdrIn w10 b { T with path := B.path } (.slice va vn vc) by rw [← hw10]; exact HA9.out.set 7 _ rfl)
         have HD10 := hid (show AdrIn w10 w.heap.size B (.slice (some ⟨g, 0, none⟩) B.path.length dc) by rw [← hw10]; exact HD9.out.set_other HNe.out.symm 7 _)
         have HO10 := hid (show w10.ownsRow w.heap.size 9 1 (.slice va vn vc) B.path.length (cellsS B.path) by rw [← hw10]; exact own_weak (own_set7 HO9.out HA9.out 7 _) HS8.out)
         have HB10 := hid (show Below b w w10 by rw [← hw10]; exact HB9.out.setCell (p := ⟨b, 7, none⟩) (Nat.le_refl _) _)
         go_upto_region 30 with fail
         clear hw10 c7 f7
         have HN := hid (HNr.out.2.2.1 hRne (by rw [hhd, h63]))
         have ha63 := ahead_63 (show RR.data.toList.head? = some 63 by rw [hhd, h63])
         have HQy := hid (rquery_any RR b { T with path := B.path } (.slice va vn vc) w10 hRs HA10.out)
         rw [ha63] at HQy
         have HPp := hid (show (withQuery { T with path := B.path } RR.data.toList).path = B.path by unfold withQuery; split <;> rfl)
         clear ha63 hhd h63 h47
         go_wp2_with fail
         refine HQy.out.mono ?_
         rintro e w11 ⟨rfl, ho11, hA11⟩
         have HO11 := hid (own_only HO10.out HA10.out ho11)
         have HB11 := hid (HB10.out.trans ho11.1)
         have HA11 := hid hA11
         clear ho11 hA11
         go_wp2
         go_ret
         rw [HN.out]
         refine ⟨rfl, HB11.out, fun x hx => ?_⟩
         cases hx
         exact ⟨_, HA11.out, by rw [HPp.out]; exact HO11.out⟩
       ·have e63 : ((RR[0].toNat : Int) == 63) = false := byte_not h63
        have HN := hid (HNr.out.2.2.2 hRne (by
         obtain ⟨r, hr⟩ := list_one RR hpos
         rw [hr]
         simp [Lib.hasPrefix, List.isPrefixOf]
         exact fun e => h47 e.symm) (by rw [hhd]; exact fun e => h63 (Option.some.inj e)))
        obtain ⟨P, hP⟩ : ∃ Z : ByteArray, Z = ⟨(aheadV [63] RR.data.toList).1.toArray⟩ := ⟨_, rfl⟩
        obtain ⟨R, hR⟩ : ∃ Z : ByteArray, Z = ⟨(aheadV [63] RR.data.toList).2.toArray⟩ := ⟨_, rfl⟩
        have hPl : P.data.toList = (aheadV [63] RR.data.toList).1 := by rw [hP]
        have hPs : P.size ≤ 100000 := by rw [hP]; exact size_le (ahead_size [63] RR.data.toList).1 hRs
        have HAh : Hid (∀ w : World, Calls Tryz.prog 100 #[.string RR, .int .u8 63, .int .u8 63] w fun e w' => e = .returned (.tuple #[.string P, .string R]) ∧ Below w.heap.size w w') := fun w => by
         have := rahead_any RR 63 63 w (by omega)
         rw [ahead_twice, ← hP, ← hR] at this
         exact this
        obtain ⟨PL, hPL⟩ : ∃ L, pathL B.path.dropLast (cutL 47 P.data.toList) = L := ⟨_, rfl⟩
        rw [← hPl, hPL] at HN
        have r7 : w8.cell? ⟨w.heap.size, 7, none⟩ = some (.slice da dn dc) := HD8.out.cell 7 _ (by rw [HX.out]; rfl)
        clear hP hR hPl h47 h63 hhd
        rcases HP.out w8 HB8.out with ⟨hva, hnil⟩ | ⟨g, cap, hva, h2, h3, h4, h5⟩
        ·injection hva with hva1 hva2 hva3
         subst hva1 hva2 hva3
         go_wp2_with fail
         refine (HAh.out _).mono ?_
         rintro e w9 ⟨rfl, hb9⟩
         have HPh := hid ((show PathAt w8 (.slice none 0 0) B.path.dropLast from .inl ⟨rfl, by rw [hnil]; rfl⟩).kept hb9)
         have HA9 := hid (HA8.out.kept hb9)
         have HB9 := hid (HB8.out.trans (hb9.mono (Nat.le_of_lt HA8.out.lt)))
         have HS9 := hid (Nat.le_trans HS8.out hb9.size)
         clear hb9 r7
         have HPt := hid (rpath_any P (.slice none 0 0) B.path.dropLast w9 hPs HPh.out (by rw [List.length_dropLast]; omega))
         unfold OwnPost at HPt
         rw [hPL] at HPt
         go_wp2_with fail
         refine HPt.out.mono ?_
         rintro e wa ⟨v', rfl, hown, hba⟩
         obtain ⟨va, vn, vc, rfl⟩ := own_sl hown
         have HAa := hid (HA9.out.kept hba)
         have HBa := hid (HB9.out.trans (hba.mono (Nat.le_of_lt HA9.out.lt)))
         have c7 := HAa.out.cell 7 _ rfl
         have f7 := HAa.out.frozen 7
         obtain ⟨wb, hwb⟩ : ∃ Z, wa.setCell ⟨b, 7, none⟩ (.slice va vn vc) = Z := ⟨_, rfl⟩
         have HAb := hid (show AdrIn wb b { T with path := PL } (.slice va vn vc) by rw [← hwb]; exact HAa.out.set 7 _ rfl)
         have HOb := hid (show wb.ownsRow w.heap.size 9 1 (.slice va vn vc) PL.length (cellsS PL) by rw [← hwb]; exact own_weak (own_set7 hown HAa.out 7 _) HS9.out)
         have HBb := hid (show Below b w wb by rw [← hwb]; exact HBa.out.setCell (p := ⟨b, 7, none⟩) (Nat.le_refl _) _)
         have HQy := hid (rquery_any RR b { T with path := PL } (.slice va vn vc) wb hRs HAb.out)
         have HPp := hid (show (withQuery { T with path := PL } (aheadV [63] RR.data.toList).2).path = PL by unfold withQuery; split <;> rfl)
         clear hown hba
         go_wp2_with fail
         clear hwb
         refine HQy.out.mono ?_
         rintro e wc ⟨rfl, hoc, hAc⟩
         have HOc := hid (own_only HOb.out HAb.out hoc)
         have HBc := hid (HBb.out.trans hoc.1)
         have HAc := hid hAc
         clear hoc hAc
         go_wp2
         go_ret
         rw [HN.out]
         refine ⟨rfl, HBc.out, fun x hx => ?_⟩
         cases hx
         exact ⟨_, HAc.out, by rw [HPp.out]; exact HOc.out⟩
        ·injection hva with hva1 hva2 hva3
         subst hva1
         subst hva3
         cases hn : B.path.length with
         | zero =>
          rw [hn] at hva2
          subst hva2
          have hB0 : B.path = [] := List.eq_nil_of_length_eq_zero hn
          go_wp2_with fail
          refine (HAh.out _).mono ?_
          rintro e w9 ⟨rfl, hb9⟩
          have HPh := hid ((show PathAt w8 (.slice (some ⟨g, 0, none⟩) 0 dc) B.path.dropLast from .inr ⟨g, dc, by rw [hB0]; rfl, h2, by rw [hB0]; exact Nat.zero_le _, h4, fun j hj => by rw [hB0] at hj; simp at hj⟩).kept hb9)
          have HA9 := hid (HA8.out.kept hb9)
          have HB9 := hid (HB8.out.trans (hb9.mono (Nat.le_of_lt HA8.out.lt)))
          have HS9 := hid (Nat.le_trans HS8.out hb9.size)
          clear hb9 r7
          have HPt := hid (rpath_any P (.slice (some ⟨g, 0, none⟩) 0 dc) B.path.dropLast w9 hPs HPh.out (by rw [List.length_dropLast]; omega))
          unfold OwnPost at HPt
          rw [hPL] at HPt
          go_wp2_with fail
          refine HPt.out.mono ?_
          rintro e wa ⟨v', rfl, hown, hba⟩
          obtain ⟨va, vn, vc, rfl⟩ := own_sl hown
          have HAa := hid (HA9.out.kept hba)
          have HBa := hid (HB9.out.trans (hba.mono (Nat.le_of_lt HA9.out.lt)))
          have c7 := HAa.out.cell 7 _ rfl
          have f7 := HAa.out.frozen 7
          obtain ⟨wb, hwb⟩ : ∃ Z, wa.setCell ⟨b, 7, none⟩ (.slice va vn vc) = Z := ⟨_, rfl⟩
          have HAb := hid (show AdrIn wb b { T with path := PL } (.slice va vn vc) by rw [← hwb]; exact HAa.out.set 7 _ rfl)
          have HOb := hid (show wb.ownsRow w.heap.size 9 1 (.slice va vn vc) PL.length (cellsS PL) by rw [← hwb]; exact own_weak (own_set7 hown HAa.out 7 _) HS9.out)
          have HBb := hid (show Below b w wb by rw [← hwb]; exact HBa.out.setCell (p := ⟨b, 7, none⟩) (Nat.le_refl _) _)
          have HQy := hid (rquery_any RR b { T with path := PL } (.slice va vn vc) wb hRs HAb.out)
          have HPp := hid (show (withQuery { T with path := PL } (aheadV [63] RR.data.toList).2).path = PL by unfold withQuery; split <;> rfl)
          clear hown hba
          go_wp2_with fail
          clear hwb
          refine HQy.out.mono ?_
          rintro e wc ⟨rfl, hoc, hAc⟩
          have HOc := hid (own_only HOb.out HAb.out hoc)
          have HBc := hid (HBb.out.trans hoc.1)
          have HAc := hid hAc
          clear hoc hAc
          go_wp2
          go_ret
          rw [HN.out]
          refine ⟨rfl, HBc.out, fun x hx => ?_⟩
          cases hx
          exact ⟨_, HAc.out, by rw [HPp.out]; exact HOc.out⟩
         | succ n =>
          rw [hn] at hva2
          subst hva2
          have hnc : n + 1 ≤ dc := by rw [← hn]; exact h3
          have hnc2 : n ≤ dc := by omega
          have hn0 : (0 : Int) < (n : Int) + 1 := by omega
          have hPd : PathAt w8 (.slice (some ⟨g, 0, none⟩) n dc) B.path.dropLast := path_drop3 (.inr ⟨g, dc, by rw [hn], h2, h3, h4, h5⟩) hn
          have HPd := hid hPd
          have hn9 : n < 100000 := by omega
          clear hPd
          go_wp2_with fail
          refine (HAh.out _).mono ?_
          rintro e w9 ⟨rfl, hb9⟩
          have HPh := hid (HPd.out.kept hb9)
          have HA9 := hid (HA8.out.kept hb9)
          have HB9 := hid (HB8.out.trans (hb9.mono (Nat.le_of_lt HA8.out.lt)))
          have HS9 := hid (Nat.le_trans HS8.out hb9.size)
          clear hb9 r7
          have HPt := hid (rpath_any P (.slice (some ⟨g, 0, none⟩) n dc) B.path.dropLast w9 hPs HPh.out (by rw [List.length_dropLast]; omega))
          unfold OwnPost at HPt
          rw [hPL] at HPt
          go_wp2_with fail
          refine HPt.out.mono ?_
          rintro e wa ⟨v', rfl, hown, hba⟩
          obtain ⟨va, vn, vc, rfl⟩ := own_sl hown
          have HAa := hid (HA9.out.kept hba)
          have HBa := hid (HB9.out.trans (hba.mono (Nat.le_of_lt HA9.out.lt)))
          have c7 := HAa.out.cell 7 _ rfl
          have f7 := HAa.out.frozen 7
          obtain ⟨wb, hwb⟩ : ∃ Z, wa.setCell ⟨b, 7, none⟩ (.slice va vn vc) = Z := ⟨_, rfl⟩
          have HAb := hid (show AdrIn wb b { T with path := PL } (.slice va vn vc) by rw [← hwb]; exact HAa.out.set 7 _ rfl)
          have HOb := hid (show wb.ownsRow w.heap.size 9 1 (.slice va vn vc) PL.length (cellsS PL) by rw [← hwb]; exact own_weak (own_set7 hown HAa.out 7 _) HS9.out)
          have HBb := hid (show Below b w wb by rw [← hwb]; exact HBa.out.setCell (p := ⟨b, 7, none⟩) (Nat.le_refl _) _)
          have HQy := hid (rquery_any RR b { T with path := PL } (.slice va vn vc) wb hRs HAb.out)
          have HPp := hid (show (withQuery { T with path := PL } (aheadV [63] RR.data.toList).2).path = PL by unfold withQuery; split <;> rfl)
          clear hown hba
          go_wp2_with fail
          clear hwb
          refine HQy.out.mono ?_
          rintro e wc ⟨rfl, hoc, hAc⟩
          have HOc := hid (own_only HOb.out HAb.out hoc)
          have HBc := hid (HBb.out.trans hoc.1)
          have HAc := hid hAc
          clear hoc hAc
          go_wp2
          go_ret
          rw [HN.out]
          refine ⟨rfl, HBc.out, fun x hx => ?_⟩
          cases hx
          exact ⟨_, HAc.out, by rw [HPp.out]; exact HOc.out⟩

end Go.Proofs.YtamockkjbkibdaaGreatDoor
