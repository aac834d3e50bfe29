/-
  Walks and plain facts that this claim leans on, put together out of 6 texts: Tk, Tl, Ux, Uy, Yf, Vq.
-/
import Derived.Test.YtgoefeaopegdoaaGreatDoorProg
import Derived.Test.YtgoefeaopegdoaaGreatDoorQx1
import Derived.Test.YtgoefeaopegdoaaGreatDoorQx3
import Derived.Test.YtgoefeaopegdoaaGreatDoorQx5
import Derived.Test.YtgoefeaopegdoaaGreatDoorQx6
import Derived.Test.YtgoefeaopegdoaaGreatDoorQx7
import Derived.Test.YtgoefeaopegdoaaGreatDoorQx8
import Derived.Test.YtgoefeaopegdoaaGreatDoorQx9
import Derived.Test.YtgoefeaopegdoaaGreatDoorQx10
import Derived.Test.YtgoefeaopegdoaaGreatDoorQx11
import Derived.Test.YtgoefeaopegdoaaGreatDoorQx12
import Derived.Test.YtgoefeaopegdoaaGreatDoorQx13
import Derived.Test.YtgoefeaopegdoaaGreatDoorQx14
import Derived.Test.YtgoefeaopegdoaaGreatDoorQx15
import Derived.Test.YtgoefeaopegdoaaGreatDoorQx17
import Derived.Test.YtgoefeaopegdoaaGreatDoorQx21
import Derived.Test.YtgoefeaopegdoaaGreatDoorQx22
import Derived.Lib.IndexMore
import Derived.Lib.Join
import Derived.Lib.LastIndexByte
import Derived.WalkKit
import Derived.Lib.Strings
import Derived.Lib.UnsafeStr
import Derived.Laws.IdiomStrings
import Derived.Laws.AppendOwn
import Derived.Laws.BitsAllLaws
import Derived.Lib.Bytealg
import Derived.Lib.BufferMore
import Derived.Lib.BufferRead
import Derived.Lib.RuneBytes
import Derived.Laws.RangeAny
import Derived.LoopN
import Derived.RegionTactic
import Derived.Deep.RegionWith
import Derived.Deep.QuietTactic
import Derived.BigQuiet
import Derived.OwnWalk
import Derived.Deep.RegionLaw
import Derived.Laws.OwnMore
import Derived.Deep.LoopGhost
import Derived.Shelf.Strings.Builder1
import Derived.Shelf.Strings.Builder2
import Derived.Shelf.Strings.OnBuilder
import Derived.Shelf.Strings.Trim
import Derived.Shelf.Small.Utf8
import Derived.Shelf.Small.Bits
import Derived.Shelf.Small.Strs
import Derived.Shelf.Small.Wraps
import Derived.Shelf.Strings.BuilderF
import Derived.Shelf.Strings.BuilderK
import Derived.Shelf.Strings.BuilderRune
import Derived.Shelf.Utf8.AppendRune
import Derived.Shelf.Utf8.AppendRunePlain
import Derived.Shelf.Strings.Builder2Cap
import Derived.Shelf.Strconv.Itoa0
import Derived.Shelf.Strconv.Itoa1
import Derived.Shelf.LaysM
import Derived.Shelf.Strconv.Itoa2
import Derived.Shelf.Strconv.Itoa3
import Derived.Shelf.Strings.Search1
import Derived.Shelf.Strings.Search2
import Derived.Shelf.Strings.Search3
import Derived.Shelf.Strings.Cut
import Derived.Shelf.Strings.Count
import Derived.Shelf.Strings.Shaped
import Derived.Shelf.Strings.LastIndex
import Derived.Shelf.Strings.Prefix
import Derived.Shelf.Strings.Split
import Derived.Shelf.Strings.Replace
import Derived.Shelf.Strings.Runes
import Derived.Shelf.Strings.IndexAny
import Derived.Shelf.Strings.AsciiSet
import Derived.Shelf.Strings.IndexAnyAll
import Derived.Shelf.Unicode.DecodeSlow
import Derived.Ground.Names2Prog
import Derived.Shelf.Slices.Clone
import Derived.Shelf.Slices.In.SortNone
import Derived.Ground.SlgnProg
import Derived.Shelf.SlicesE.Clone
import Derived.BigRegion
import Derived.Laws.AppendOwnNone
import Derived.Deep.Cut
import Derived.Scope
import Derived.ScopeJumps
import Derived.WalkMore
import Derived.Lib.IndexAny
import Derived.Lib.Replace
import Derived.Lib.TrimByte
import Derived.Lib.ItoaNum
import Derived.Lib.DecodeN
import Derived.Lib.OthersKept
import Derived.Laws.BytesString
import Derived.Deep.WholeRow
import Derived.WalkSpells
import Derived.WalkLawsBesides
import Derived.Lib.AppendIntMem
import Derived.Lib.SmallJoins
import Derived.WalkSmall
import Derived.Laws.CopyOwn
import Derived.Laws.ResultCell
import Derived.Deep.MidRow
import Derived.Lib.FrozenHead2
import Derived.Lib.Builder
import Derived.Lib.AppendStr
import Derived.Deep.RegionHeld
set_option linter.unusedSimpArgs false
set_option linter.unusedVariables false

namespace Go.Proofs.YtgoefeaopegdoaaGreatDoor
open Go.RowKit

def authThen (u : Adr) (B : List UInt8) : Except Int (List UInt8 × List UInt8 × List UInt8 × Int) → Except Int Adr
 | .error e => .error e
 | .ok (a, c, h, p) => .ok (withPath { u with user := a, pass := c, host := h, hasHost := true, port := p } [] B)

def FarPost (b : Nat) (r : Except Int Adr) (w : World) (e : Ending) (w' : World) : Prop :=
 e = .returned (.int .i64 (numOf r)) ∧ Below b w w' ∧ ∀ v, r = .ok v → ∃ pv, AdrIn w' b v pv ∧ w'.ownsRow w.heap.size 9 1 pv v.path.length (cellsS v.path)

set_option maxHeartbeats 2000000 in
set_option maxRecDepth 100000 in
theorem rfar_any (s : ByteArray) (b : Nat) (u : Adr) (pv : Value) (w : World) (hs : s.size ≤ 100000) (hA : AdrIn w b u pv) (hup : u.user = [] ∧ u.pass = []) :
  Calls Tryz.prog 208 #[.pointer (some ⟨b, 0, none⟩), .string s] w (FarPost b (withAuth u s.data.toList) w) := by
 have HA := hid hA
 have HLt := hid (Nat.le_of_lt hA.lt)
 clear hA
 have hal := ahead_size [47, 63] s.data.toList
 obtain ⟨A, hAd⟩ : ∃ X : ByteArray, X = ⟨(aheadV [47, 63] s.data.toList).1.toArray⟩ := ⟨_, rfl⟩
 obtain ⟨R, hRd⟩ : ∃ X : ByteArray, X = ⟨(aheadV [47, 63] s.data.toList).2.toArray⟩ := ⟨_, rfl⟩
 have hAs : A.size ≤ 100000 := by rw [hAd]; exact size_le hal.1 hs
 have hRs : R.size ≤ 100000 := by rw [hRd]; exact size_le hal.2 hs
 have HAh : Hid (∀ w : World, Calls Tryz.prog 212 #[.string s, .int .u8 47, .int .u8 63] w fun e w' => e = .returned (.tuple #[.string A, .string R]) ∧ Below w.heap.size w w') := fun w => by
  have := rahead_any s 47 63 w (by omega)
  rw [← hAd, ← hRd] at this
  exact this
 have HAu := hid (fun (w : World) (h : AdrIn w b u pv) => rauthority_any A b u pv w hAs h hup)
 have hAl : A.data.toList = (aheadV [47, 63] s.data.toList).1 := by rw [hAd]
 have hRl : R.data.toList = (aheadV [47, 63] s.data.toList).2 := by rw [hRd]
 obtain ⟨r, hr⟩ : ∃ r, r = authV u.scheme A.data.toList := ⟨_, rfl⟩
 rw [← hr] at HAu
 have HV := hid (show withAuth u s.data.toList = authThen u R.data.toList r by
  rw [hr, hAl, hRl]; rfl)
 have HEr := hid (show ∀ e, r = .error e → e = 10 ∨ e = 11 by intro e he; exact authV_err (hr.symm.trans he))
 clear hal hAd hRd hAl hRl hr
 go_enter Tryz.func208, Tryz.ntmps208
 go_wp2_with fail
 refine (HAh.out _).mono ?_
 rintro e w1 ⟨rfl, hb1⟩
 have H1 := hid (HA.out.kept hb1)
 have HB1 := hid (hb1.mono HLt.out)
 have hsz1 := hb1.size
 clear hb1
 go_wp2_with fail
 refine (HAu.out _ H1.out).mono ?_
 rintro e w2 ⟨rfl, hb2, h2⟩
 have HB2 := hid (HB1.out.trans hb2)
 have hsz2 : w.heap.size ≤ w2.heap.size := by have := hb2.size; omega
 have H2 := hid h2
 clear hb2 h2
 cases r with
 | error ee =>
  have HN := hid (show withAuth u s.data.toList = .error ee from HV.out)
  have hne : ((authE (.error ee) : Int) != 0) = true := by
   rcases HEr.out ee rfl with h | h <;> rw [h] <;> rfl
  go_wp2
  go_ret
  rw [HN.out]
  exact ⟨rfl, HB2.out, fun v h => by cases h⟩
 | ok x =>
  obtain ⟨a, c, h, p⟩ := x
  have HN := hid (show withAuth u s.data.toList = .ok (withPath { u with user := a, pass := c, host := h, hasHost := true, port := p } [] R.data.toList) from HV.out)
  have H2b := hid (H2.out rfl)
  have hz : authE (.ok (a, c, h, p)) = 0 := rfl
  rw [hz]
  go_wp2_with fail
  refine (rrest_any R b _ pv w2 hRs H2b.out).mono ?_
  rintro e w3 ⟨rfl, ho3, pv3, h3, hown3⟩
  have HB3 := hid (HB2.out.trans ho3.1)
  have H3 := hid h3
  have HO3 := hid (own_weak hown3 hsz2)
  clear ho3 h3 hown3
  go_wp2
  go_ret
  rw [HN.out]
  exact ⟨rfl, HB3.out, fun v hv => by cases hv; exact ⟨pv3, H3.out, HO3.out⟩⟩

theorem FarPost.far {b : Nat} {r : Except Int Adr} {w w1 w' : World} {e : Ending} (h : FarPost b r w1 e w') (hb : Below b w w1) (hs : w.heap.size ≤ w1.heap.size) : FarPost b r w e w' :=
 ⟨h.1, hb.trans h.2.1, fun v hv => by obtain ⟨pv, h1, h2⟩ := h.2.2 v hv; exact ⟨pv, h1, own_weak h2 hs⟩⟩

set_option maxHeartbeats 2000000 in
set_option maxRecDepth 100000 in
theorem rfull_any (s : ByteArray) (b : Nat) (u : Adr) (pv : Value) (w : World) (hs : s.size ≤ 100000) (hA : AdrIn w b u pv) (hup : u.user = [] ∧ u.pass = []) :
  Calls Tryz.prog 174 #[.pointer (some ⟨b, 0, none⟩), .string s] w (FarPost b (startV { u with port := -1 } s.data.toList) w) := by
 obtain ⟨i0, hi, hz0, hz1, hz2⟩ := info_parts infoStr
 have hc5 := hA.cell 5 _ rfl
 have hf5 := hA.frozen 5
 have h1 : AdrIn (w.setCell ⟨b, 5, none⟩ (.int .i64 (-1))) b { u with port := -1 } pv := hA.set 5 _ rfl
 have hb1 : Below b w (w.setCell ⟨b, 5, none⟩ (.int .i64 (-1))) := (Below.refl b w).setCell (p := ⟨b, 5, none⟩) (Nat.le_refl _) _
 have hsz1 : (w.setCell ⟨b, 5, none⟩ (.int .i64 (-1))).heap.size = w.heap.size := by simp
 have hc0 : (w.setCell ⟨b, 5, none⟩ (.int .i64 (-1))).cell? ⟨b, 0, none⟩ = some (.string ⟨u.scheme.toArray⟩) := h1.cell 0 _ rfl
 have HW1 := hid (show ∃ w1, w1 = w.setCell ⟨b, 5, none⟩ (.int .i64 (-1)) from ⟨_, rfl⟩)
 have HSpec : Hid (∀ w : World, Calls Tryz.prog 122 #[.string ⟨u.scheme.toArray⟩] w fun e w' => e = .returned (.bool (specV u.scheme)) ∧ w = w') := fun w => rspecial_any ⟨u.scheme.toArray⟩ w
 obtain ⟨v, hv⟩ : ∃ v : Adr, v = { u with port := -1 } := ⟨_, rfl⟩
 have hvs : v.scheme = u.scheme := by rw [hv]
 have hvup : v.user = [] ∧ v.pass = [] := by rw [hv]; exact hup
 rw [← hv] at h1 ⊢
 have H1 := hid h1
 have HB1 := hid hb1
 have HSz1 := hid hsz1
 have HLt := hid (Nat.le_of_lt h1.lt)
 clear hv h1 hb1 hsz1 hA hup HW1
 go_enter Tryz.func174, Tryz.ntmps174
 go_wp2_with fail
 generalize (w.setCell ⟨b, 5, none⟩ (.int .i64 (-1))) = w1 at *
 refine (HSpec.out _).mono ?_
 rintro e w' ⟨rfl, rfl⟩
 cases hsp : specV u.scheme with
 | true =>
  obtain ⟨A, hAd⟩ : ∃ X : ByteArray, X = ⟨(slashV s.data.toList).toArray⟩ := ⟨_, rfl⟩
  have hAl : A.data.toList = slashV s.data.toList := by rw [hAd]
  have hAs : A.size ≤ 100000 := by rw [hAd]; exact size_le (by rw [slash_len]; exact Nat.le_refl _) hs
  obtain ⟨B, hBd⟩ : ∃ X : ByteArray, X = ⟨(skip47 A.data.toList).toArray⟩ := ⟨_, rfl⟩
  have hBl : B.data.toList = skip47 A.data.toList := by rw [hBd]
  have hBs : B.size ≤ 100000 := by rw [hBd]; exact size_le (List.dropWhile_suffix _).length_le hAs
  have HSl : Hid (∀ w : World, Calls Tryz.prog 210 #[.string s] w fun e w' => e = .returned (.string A) ∧ Below w.heap.size w w') := fun w => by rw [hAd]; exact rslashes_any s w (by omega)
  have HOv : Hid (∀ w : World, Calls Tryz.prog 209 #[.string A] w fun e w' => e = .returned (.string B) ∧ w = w') := fun w => by rw [hBd]; exact rover_any A w (by omega)
  have HN := hid (show startV v s.data.toList = withAuth v B.data.toList by unfold startV; rw [hvs, hsp, if_pos rfl, hBl, hAl])
  clear hsp hAd hAl hBd hBl
  go_wp2_with fail
  refine (HSl.out _).mono ?_
  rintro e w2 ⟨rfl, hb2⟩
  have H2 := hid (H1.out.kept hb2)
  have HB2 := hid (HB1.out.trans (hb2.mono HLt.out))
  have hsz2 : w.heap.size ≤ w2.heap.size := by have := hb2.size; have := HSz1.out; omega
  clear hb2
  go_wp2_with fail
  refine (HOv.out _).mono ?_
  rintro e w' ⟨rfl, rfl⟩
  go_wp2_with fail
  refine (rfar_any B b v pv _ hBs H2.out hvup).mono ?_
  rintro e w3 hfar
  have HF := hid (hfar.far HB2.out hsz2)
  obtain ⟨rfl, _⟩ := hfar
  go_wp2
  go_ret
  rw [HN.out]
  exact HF.out
 | false =>
  have HBe2 : Hid (∀ w : World, Calls Tryz.prog 96 #[.string s, .string ⟨#[47, 47]⟩] w fun e w' => e = .returned (.bool (Lib.hasPrefix s.data.toList [47, 47])) ∧ w = w') := fun w => begins_any s ⟨#[47, 47]⟩ w (by omega) (by decide)
  have HBe1 : Hid (∀ w : World, Calls Tryz.prog 96 #[.string s, .string ⟨#[47]⟩] w fun e w' => e = .returned (.bool (Lib.hasPrefix s.data.toList [47])) ∧ w = w') := fun w => begins_any s ⟨#[47]⟩ w (by omega) (by decide)
  cases hp2 : Lib.hasPrefix s.data.toList [47, 47] with
  | true =>
   rw [hp2] at HBe2
   obtain ⟨A, hAd⟩ : ∃ X : ByteArray, X = s.extract 2 s.size := ⟨_, rfl⟩
   have hAl : A.data.toList = s.data.toList.drop 2 := by rw [hAd, extract_drop]
   have hAs : A.size ≤ 100000 := by rw [hAd]; simp; omega
   have h2s : (2 : Int) ≤ (s.size : Int) := by
    have : [47, 47].isPrefixOf s.data.toList = true := hp2
    rw [List.isPrefixOf_iff_prefix] at this
    have := this.length_le
    rw [← Lib.size_eq] at this
    simp at this; omega
   have HN := hid (show startV v s.data.toList = withAuth v A.data.toList by unfold startV; rw [hvs, hsp, if_neg (by decide), if_pos hp2, hAl])
   have HAd := hid hAd.symm
   clear hsp hp2 hAd hAl
   go_wp2_with fail
   refine (HBe2.out _).mono ?_
   rintro e w' ⟨rfl, rfl⟩
   go_wp2_with fail
   rw [HAd.out]
   refine (rfar_any A b v pv _ hAs H1.out hvup).mono ?_
   rintro e w3 hfar
   have HF := hid (hfar.far HB1.out (Nat.le_of_eq HSz1.out.symm))
   obtain ⟨rfl, _⟩ := hfar
   go_wp2
   go_ret
   rw [HN.out]
   exact HF.out
  | false =>
   rw [hp2] at HBe2
   cases hp1 : Lib.hasPrefix s.data.toList [47] with
   | true =>
    rw [hp1] at HBe1
    have HN := hid (show startV v s.data.toList = .ok (withPath v [] s.data.toList) by unfold startV; rw [hvs, hsp, if_neg (by decide), if_neg (by rw [hp2]; decide), if_pos hp1])
    clear hsp hp2 hp1
    go_wp2_with fail
    refine (HBe2.out _).mono ?_
    rintro e w' ⟨rfl, rfl⟩
    go_wp2_with fail
    refine (HBe1.out _).mono ?_
    rintro e w' ⟨rfl, rfl⟩
    go_wp2_with fail
    refine (rrest_any s b v pv _ hs H1.out).mono ?_
    rintro e w3 ⟨rfl, ho3, pv3, h3, hown3⟩
    have HB3 := hid (HB1.out.trans ho3.1)
    have H3 := hid h3
    have HO3 := hid (own_weak hown3 (Nat.le_of_eq HSz1.out.symm))
    clear ho3 h3 hown3
    go_wp2
    go_ret
    rw [HN.out]
    exact ⟨rfl, HB3.out, fun x hx => by cases hx; exact ⟨pv3, H3.out, HO3.out⟩⟩
   | false =>
    rw [hp1] at HBe1
    have hal := ahead_size [63] s.data.toList
    obtain ⟨P, hP⟩ : ∃ X : ByteArray, X = ⟨(aheadV [63] s.data.toList).1.toArray⟩ := ⟨_, rfl⟩
    obtain ⟨R, hR⟩ : ∃ X : ByteArray, X = ⟨(aheadV [63] s.data.toList).2.toArray⟩ := ⟨_, rfl⟩
    have hPl : P.data.toList = (aheadV [63] s.data.toList).1 := by rw [hP]
    have hPs : P.size ≤ 100000 := by rw [hP]; exact size_le hal.1 hs
    have HAh : Hid (∀ w : World, Calls Tryz.prog 212 #[.string s, .int .u8 63, .int .u8 63] w fun e w' => e = .returned (.tuple #[.string P, .string R]) ∧ Below w.heap.size w w') := fun w => by
     have := rahead_any s 63 63 w (by omega)
     rw [ahead_twice, ← hP, ← hR] at this
     exact this
    obtain ⟨C, hC⟩ : ∃ X : ByteArray, X = ⟨(pct 1 P.data.toList).toArray⟩ := ⟨_, rfl⟩
    have HPc : Hid (∀ w : World, Calls Tryz.prog 207 #[.string P, .int .i64 1] w fun e w' => e = .returned (.string C) ∧ Below w.heap.size w w') := fun w => by rw [hC]; exact rpctS_any P 1 w (by omega)
    have HN := hid (show startV v s.data.toList = .ok (withQuery { v with opq := true, path := [C.data.toList] } (aheadV [63] s.data.toList).2) by
     unfold startV
     rw [hvs, hsp, if_neg (by decide), if_neg (by rw [hp2]; decide), if_neg (by rw [hp1]; decide), hC, hPl])
    have HQ := hid (fun (w : World) (x : Value) (h : AdrIn w b { v with opq := true, path := [C.data.toList] } x) => rquery_any s b _ x w hs h)
    have HPp := hid (show (withQuery { v with opq := true, path := [C.data.toList] } (aheadV [63] s.data.toList).2).path = [C.data.toList] by unfold withQuery; split <;> rfl)
    clear hsp hp2 hp1 hal hP hR hPl hC
    go_wp2_with fail
    refine (HBe2.out _).mono ?_
    rintro e w' ⟨rfl, rfl⟩
    go_wp2_with fail
    refine (HBe1.out _).mono ?_
    rintro e w' ⟨rfl, rfl⟩
    go_wp2_with fail
    refine (HAh.out _).mono ?_
    rintro e w2 ⟨rfl, hb2⟩
    have h2 := H1.out.kept hb2
    have hc6 := h2.cell 6 _ rfl
    have hf6 := h2.frozen 6
    have H3 := hid (show AdrIn (w2.setCell ⟨b, 6, none⟩ (.bool true)) b { v with opq := true } pv from h2.set 6 _ rfl)
    have HB3 := hid (show Below b w (w2.setCell ⟨b, 6, none⟩ (.bool true)) from (HB1.out.trans (hb2.mono HLt.out)).setCell (p := ⟨b, 6, none⟩) (Nat.le_refl _) _)
    have hsz3 : w.heap.size ≤ (w2.setCell ⟨b, 6, none⟩ (.bool true)).heap.size := by have := hb2.size; have := HSz1.out; simp; omega
    clear h2 hb2
    go_wp2_with fail
    generalize (w2.setCell ⟨b, 6, none⟩ (.bool true)) = w3 at *
    refine (HPc.out _).mono ?_
    rintro e w4 ⟨rfl, hb4⟩
    have h4 := H3.out.kept hb4
    have hc7 := h4.cell 7 _ rfl
    have hf7 := h4.frozen 7
    have hlt4 := h4.lt
    obtain ⟨W5, hW5⟩ : ∃ W, W = w4.setCell ⟨b, 7, none⟩ (.slice (some ⟨w4.heap.size, 0, none⟩) 1 1) := ⟨_, rfl⟩
    have hsz5 : W5.heap.size = w4.heap.size := by rw [hW5]; simp
    have h5 : AdrIn W5 b { v with opq := true, path := [C.data.toList] } (.slice (some ⟨w4.heap.size, 0, none⟩) 1 1) := by rw [hW5]; exact h4.set 7 _ rfl
    have hb5 : Below b w W5 := by rw [hW5]; exact (HB3.out.trans (hb4.mono (Nat.le_of_lt H3.out.lt))).setCell (p := ⟨b, 7, none⟩) (Nat.le_refl _) _
    have hsz6 : w.heap.size ≤ w4.heap.size := by have := hb4.size; omega
    have hown : (W5.alloc (.cells #[.string C] 9)).ownsRow w.heap.size 9 1 (.slice (some ⟨w4.heap.size, 0, none⟩) 1 1) 1 (cellsS [C.data.toList]) := by
     have := own_one W5 C
     rw [hsz5] at this
     exact own_weak this hsz6
    have H6 := hid (show AdrIn (W5.alloc (.cells #[.string C] 9)) b { v with opq := true, path := [C.data.toList] } (.slice (some ⟨w4.heap.size, 0, none⟩) 1 1) from h5.kept ((Below.refl _ W5).alloc (Nat.le_refl _) _))
    have HB6 := hid (show Below b w (W5.alloc (.cells #[.string C] 9)) from hb5.trans (((Below.refl _ W5).alloc (Nat.le_refl _) _).mono (Nat.le_of_lt h5.lt)))
    have HO6 := hid hown
    have HW5 := hid hW5.symm
    clear h4 h5 hb5 hown hW5 hb4 hsz5
    go_wp2_with fail
    rw [HW5.out]
    refine (HQ.out _ _ H6.out).mono ?_
    rintro e w7 ⟨rfl, ho7, h7⟩
    have HB7 := hid (HB6.out.trans ho7.1)
    have HO7 := hid (own_only HO6.out H6.out ho7)
    have H7 := hid h7
    clear ho7 h7
    go_wp2
    go_ret
    rw [HN.out]
    refine ⟨rfl, HB7.out, fun x hx => ?_⟩
    injection hx with hx
    subst hx
    refine ⟨_, H7.out, ?_⟩
    rw [HPp.out]
    exact HO7.out

end Go.Proofs.YtgoefeaopegdoaaGreatDoor

namespace Go.Proofs.YtgoefeaopegdoaaGreatDoor
open Go.RowKit

theorem withAuth_err {u : Adr} {r : List UInt8} {e : Int} (h : withAuth u r = .error e) : e = 10 ∨ e = 11 := by
 unfold withAuth at h
 split at h
 ·rename_i e' he
  injection h with h
  subst h
  exact authV_err he
 ·cases h

theorem startV_err {u : Adr} {r : List UInt8} {e : Int} (h : startV u r = .error e) : e = 10 ∨ e = 11 := by
 unfold startV at h
 split at h
 ·exact withAuth_err h
 ·split at h
  ·exact withAuth_err h
  ·split at h
   ·cases h
   ·cases h

theorem low_nil {l : List UInt8} (h : low l = []) : l = [] := by
 cases l with
 | nil => rfl
 | cons a l => cases h

theorem schemeV_ne {l n b : List UInt8} (h : schemeV l = some (n, b)) : n ≠ [] ∧ n.length ≤ l.length ∧ b.length ≤ l.length := by
 unfold schemeV at h
 split at h
 ·rename_i hh
  injection h with h
  simp only [Prod.mk.injEq] at h
  obtain ⟨rfl, rfl⟩ := h
  have hp := part_le 58 l
  refine ⟨?_, by rw [show low (part 58 l).1 = (part 58 l).1.map lowC from rfl, List.length_map]; exact hp.1, hp.2⟩
  intro e
  have := low_nil e
  rw [this] at hh
  simp [schOk] at hh
 ·cases h

theorem begin_some {s n b : List UInt8} (h : schemeV (part 35 (cleanV s)).1 = some (n, b)) : beginU s = (⟨n, [], [], [], false, -1, false, [], [], pct 2 (part 35 (cleanV s)).2.1, false, (part 35 (cleanV s)).2.2⟩, b) := by
 unfold beginU
 simp only [h, Option.getD_some]

theorem begin_none {s : List UInt8} (h : schemeV (part 35 (cleanV s)).1 = none) : (beginU s).1.scheme = [] := by
 unfold beginU
 simp only [h, Option.getD_none]

set_option maxHeartbeats 4000000 in
set_option maxRecDepth 100000 in
theorem rparse3_any (s : ByteArray) (w : World) (hs : s.size ≤ 100000) :
  Calls Tryz.prog 118 #[.string s] w (ReadPost (readV s.data.toList none) w) := by
 have h0 : AdrIn (w.alloc (.cells (adrCells Adr.zero (.slice none 0 0)).toArray 34)) w.heap.size Adr.zero (.slice none 0 0) := heap_alloc_new w _
 have hb0 : Below w.heap.size w (w.alloc (.cells (adrCells Adr.zero (.slice none 0 0)).toArray 34)) := (Below.refl _ w).alloc (Nat.le_refl _) _
 have hz0 : (w.alloc (.cells (adrCells Adr.zero (.slice none 0 0)).toArray 34)).heap.size = w.heap.size + 1 := by simp
 have H0 := hid h0
 have HB0 := hid hb0
 have HZ0 := hid hz0
 clear h0 hb0 hz0
 by_cases hlong : 4096 < s.size
 ·have HN := hid (readV_long (s := s.data.toList) (b := none) (by simpa using hlong))
  have hl' : (4096 : Int) < (s.size : Int) := by omega
  go_enter Tryz.func118, Tryz.ntmps118
  go_wp2_with (refine wpList_store_mid rfl 34 (.tmp 2) (.tmp 13) rfl w.heap.size 0 (adrCells Adr.zero (.slice none 0 0)).toArray rfl rfl H0.out.there (sizeUa _ _) (all_oneCell_toArray (adrCells_one _ _ ⟨_, _, _, rfl⟩)) ?_)
  refine bodyPost_ret (results_u2 rfl _ _ w.heap.size Adr.zero (.slice none 0 0) rfl (range_row H0.out.store)) rfl ⟨.slice none 0 0, ?_, ?_, below_setCells (Nat.le_refl _) _ _ _ HB0.out⟩
  ·rw [HN.out]; rfl
  ·rw [HN.out]; exact own_nil _ _ _
 ·have hl' : ¬ (4096 : Int) < (s.size : Int) := by omega
  have hnl : ¬ 4096 < s.data.toList.length := by simpa using hlong
  obtain ⟨C, hC⟩ : ∃ X : ByteArray, X = ⟨(cleanV s.data.toList).toArray⟩ := ⟨_, rfl⟩
  have hCl : C.data.toList = cleanV s.data.toList := by rw [hC]
  have hCs : C.size ≤ 100000 := by rw [hC]; exact size_le (clean_le _) hs
  have hpl := part_le 35 C.data.toList
  obtain ⟨X, hX⟩ : ∃ X : ByteArray, X = ⟨(part 35 C.data.toList).1.toArray⟩ := ⟨_, rfl⟩
  have hXl : X.data.toList = (part 35 C.data.toList).1 := by rw [hX]
  have hXs : X.size ≤ 100000 := by rw [hX]; exact size_le hpl.1 hCs
  obtain ⟨F, hF⟩ : ∃ F, F = pct 2 (part 35 C.data.toList).2.1 := ⟨_, rfl⟩
  obtain ⟨hf, hhf⟩ : ∃ F, F = (part 35 C.data.toList).2.2 := ⟨_, rfl⟩
  have HCl : Hid (∀ w : World, Calls Tryz.prog 172 #[.string s] w fun e w' => e = .returned (.string C) ∧ w = w') := fun w => by rw [hC]; exact rclean_any s w (by omega)
  have HSp : Hid (∀ (w : World) (b : Nat), AdrIn w b Adr.zero (.slice none 0 0) → Calls Tryz.prog 171 #[.pointer (some ⟨b, 0, none⟩), .string C] w fun e w' => e = .returned (.string X) ∧ Only b w w' ∧ AdrIn w' b { Adr.zero with fragment := F, hasFragment := hf } (.slice none 0 0)) := fun w b h => by
   have := rsplit_any C b Adr.zero (.slice none 0 0) w hCs h ⟨rfl, rfl⟩
   rw [← hX, ← hF, ← hhf] at this
   exact this
  obtain ⟨o, ho⟩ : ∃ o, o = schemeV X.data.toList := ⟨_, rfl⟩
  have HSc : Hid (∀ w : World, Calls Tryz.prog 173 #[.string X] w fun e w' => e = .returned (schP o) ∧ Below w.heap.size w w') := fun w => by rw [ho]; exact rscheme_any X w (by omega)
  have ho2 : schemeV (part 35 (cleanV s.data.toList)).1 = o := by rw [ho, hXl, hCl]
  have HNo := hid (show o = none → readV s.data.toList none = .error 12 by
   intro h
   exact readV_bare hnl (begin_none (by rw [ho2, h])))
  have HSo := hid (show ∀ n b, o = some (n, b) → readV s.data.toList none = startV { ({ ({ Adr.zero with fragment := F, hasFragment := hf } : Adr) with scheme := n } : Adr) with port := -1 } b ∧ b.length ≤ 100000 by
   intro n b h
   have h1 := begin_some (s := s.data.toList) (by rw [ho2, h])
   have h2 := schemeV_ne (ho2.trans h)
   rw [readV_full hnl (by rw [h1]; exact h2.1), h1, hF, hhf, hCl]
   refine ⟨rfl, ?_⟩
   rw [← hCl, ← hXl] at h2
   have := h2.2.2
   rw [← Lib.size_eq] at this
   omega)
  clear hC hCl hpl hX hXl hF hhf ho ho2 hnl hlong
  have hN1 : AdrIn ((w.alloc (.cells (adrCells Adr.zero (.slice none 0 0)).toArray 34)).alloc (.cells (adrCells Adr.zero (.slice none 0 0)).toArray 34)) (w.heap.size + 1) Adr.zero (.slice none 0 0) := by
   have := heap_alloc_new (w.alloc (.cells (adrCells Adr.zero (.slice none 0 0)).toArray 34)) (.cells (adrCells Adr.zero (.slice none 0 0)).toArray 34)
   rw [HZ0.out] at this
   exact this
  have hR1 : AdrIn ((w.alloc (.cells (adrCells Adr.zero (.slice none 0 0)).toArray 34)).alloc (.cells (adrCells Adr.zero (.slice none 0 0)).toArray 34)) w.heap.size Adr.zero (.slice none 0 0) := H0.out.kept ((Below.refl _ _).alloc (Nat.le_refl _) _)
  have hB1 : Below w.heap.size w ((w.alloc (.cells (adrCells Adr.zero (.slice none 0 0)).toArray 34)).alloc (.cells (adrCells Adr.zero (.slice none 0 0)).toArray 34)) := below2 HB0.out ((Below.refl _ _).alloc (Nat.le_refl _) _)
  have HN1 := hid hN1
  have HR1 := hid hR1
  have HB1 := hid hB1
  clear hN1 hR1 hB1
  go_enter Tryz.func118, Tryz.ntmps118
  go_wp2_with fail
  refine (HCl.out _).mono ?_
  rintro e w' ⟨rfl, rfl⟩
  go_wp2_with fail
  refine (HSp.out _ _ HN1.out).mono ?_
  rintro e w2 ⟨rfl, ho2, h2⟩
  have HR2 := hid (show AdrIn w2 w.heap.size Adr.zero (.slice none 0 0) by
   have := HR1.out
   unfold AdrIn at this ⊢
   rw [ho2.1.block _ (by omega)]; exact this)
  have HB2 := hid (HB1.out.trans (ho2.1.mono (by omega)))
  have H2 := hid h2
  clear ho2 h2
  go_wp2_with fail
  refine (HSc.out _).mono ?_
  rintro e w3 ⟨rfl, hb3⟩
  have H3 := hid (H2.out.kept hb3)
  have HR3 := hid (HR2.out.kept hb3)
  have HB3 := hid (below2 HB2.out hb3)
  clear hb3
  cases o with
  | none =>
   have HN := hid (HNo.out rfl)
   rw [show schP none = .tuple #[.string ⟨#[]⟩, .string ⟨#[]⟩, .bool false] from rfl]
   go_wp2_with (refine wpList_store_mid rfl 34 (.tmp 2) (.tmp 25) rfl w.heap.size 0 (adrCells Adr.zero (.slice none 0 0)).toArray rfl rfl HR3.out.there (sizeUa _ _) (all_oneCell_toArray (adrCells_one _ _ ⟨_, _, _, rfl⟩)) ?_)
   refine bodyPost_ret (results_u2 rfl _ _ w.heap.size Adr.zero (.slice none 0 0) rfl (range_row HR3.out.store)) rfl ⟨.slice none 0 0, ?_, ?_, below_setCells (Nat.le_refl _) _ _ _ HB3.out⟩
   ·rw [HN.out]; rfl
   ·rw [HN.out]; exact own_nil _ _ _
  | some nb =>
   obtain ⟨n, bh⟩ := nb
   obtain ⟨hread, hbl⟩ := HSo.out n bh rfl
   obtain ⟨NB, hNB⟩ : ∃ X : ByteArray, X = ⟨n.toArray⟩ := ⟨_, rfl⟩
   obtain ⟨BB, hBB⟩ : ∃ X : ByteArray, X = ⟨bh.toArray⟩ := ⟨_, rfl⟩
   have hBs : BB.size ≤ 100000 := by rw [hBB]; exact hbl
   rw [show schP (some (n, bh)) = .tuple #[.string NB, .string BB, .bool true] by rw [hNB, hBB]; rfl]
   have hc0 := H3.out.cell 0 _ rfl
   have hf0 := H3.out.frozen 0
   obtain ⟨U, hU⟩ : ∃ U : Adr, U = { ({ Adr.zero with fragment := F, hasFragment := hf } : Adr) with scheme := n } := ⟨_, rfl⟩
   have h4 : AdrIn (w3.setCell ⟨w.heap.size + 1, 0, none⟩ (.string NB)) (w.heap.size + 1) U (.slice none 0 0) := by rw [hU, hNB]; exact H3.out.set 0 _ rfl
   have hr4 : AdrIn (w3.setCell ⟨w.heap.size + 1, 0, none⟩ (.string NB)) w.heap.size Adr.zero (.slice none 0 0) := HR3.out.set_other (by omega) 0 _
   have hb4 : Below w.heap.size w (w3.setCell ⟨w.heap.size + 1, 0, none⟩ (.string NB)) := HB3.out.setCell (p := ⟨w.heap.size + 1, 0, none⟩) (by show w.heap.size ≤ w.heap.size + 1; omega) _
   have hread2 : readV s.data.toList none = startV { U with port := -1 } BB.data.toList := by rw [hread, hU, hBB]
   obtain ⟨r, hr⟩ : ∃ r, r = startV { U with port := -1 } BB.data.toList := ⟨_, rfl⟩
   have HFu := hid (fun (w' : World) (h : AdrIn w' (w.heap.size + 1) U (.slice none 0 0)) => rfull_any BB (w.heap.size + 1) U (.slice none 0 0) w' hBs h (by rw [hU]; exact ⟨rfl, rfl⟩))
   rw [← hr] at HFu
   have HN := hid (show readV s.data.toList none = r by rw [hread2, hr])
   have HEr := hid (show ∀ e, r = .error e → e = 10 ∨ e = 11 by intro e he; exact startV_err (hr.symm.trans he))
   have H4 := hid h4
   have HR4 := hid hr4
   have HB4 := hid hb4
   clear hread hbl hNB hBB hU h4 hr4 hb4 hread2 hr HSo HNo
   go_wp2_with fail
   generalize (w3.setCell ⟨w.heap.size + 1, 0, none⟩ (.string NB)) = w4 at *
   refine (HFu.out _ H4.out).mono ?_
   rintro e w5 ⟨rfl, hb5, h5⟩
   have HR5 := hid (show AdrIn w5 w.heap.size Adr.zero (.slice none 0 0) by
    have := HR4.out
    unfold AdrIn at this ⊢
    rw [hb5.block _ (by omega)]; exact this)
   have HB5 := hid (HB4.out.trans (hb5.mono (by omega)))
   have hsz4 : w.heap.size ≤ w4.heap.size := HB4.out.size
   have H5 := hid h5
   clear hb5 h5
   cases r with
   | error ee =>
    have hne : ((numOf (.error ee) : Int) != 0) = true := by
     rcases HEr.out ee rfl with h | h <;> rw [h] <;> rfl
    have HV := hid (show numOf (.error ee) = ee from rfl)
    go_wp2_with (refine wpList_store_mid rfl 34 (.tmp 2) (.tmp 32) rfl w.heap.size 0 (adrCells Adr.zero (.slice none 0 0)).toArray rfl rfl HR5.out.there (sizeUa _ _) (all_oneCell_toArray (adrCells_one _ _ ⟨_, _, _, rfl⟩)) ?_)
    refine bodyPost_ret (results_u2 rfl _ _ w.heap.size Adr.zero (.slice none 0 0) rfl (range_row HR5.out.store)) rfl ⟨.slice none 0 0, ?_, ?_, below_setCells (Nat.le_refl _) _ _ _ HB5.out⟩
    ·rw [HN.out]; rfl
    ·rw [HN.out]; exact own_nil _ _ _
   | ok v =>
    obtain ⟨pv, h6, hown⟩ := H5.out v rfl
    have HU6 := hid h6
    have HO6 := hid (own_weak hown hsz4)
    have hsl := own_sl hown
    rw [show numOf (.ok v) = 0 from rfl]
    clear h6 hown
    go_wp2_with (first | refine wpList_load_mid rfl 34 (.tmp 4) rfl (w.heap.size + 1) 0 rfl (adrCells v pv) _ (range_row HU6.out) Tryz.underlying34 rfl (sizeUl _ pv) ?_ | refine wpList_store_mid rfl 34 (.tmp 2) (.tmp 34) rfl w.heap.size 0 (adrCells v pv).toArray rfl rfl HR5.out.there (sizeUa _ pv) (all_oneCell_toArray (adrCells_one _ pv hsl)) ?_)
    refine bodyPost_ret (results_u2 rfl _ _ w.heap.size v pv rfl (range_row HR5.out.store)) rfl ⟨pv, ?_, ?_, below_setCells (Nat.le_refl _) _ _ _ HB5.out⟩
    ·rw [HN.out]; rfl
    ·rw [HN.out]; exact own_cells HO6.out HR5.out _ _

end Go.Proofs.YtgoefeaopegdoaaGreatDoor

namespace Go.Proofs.YtgoefeaopegdoaaGreatDoor
open Go.RowKit

def slL (L : List (List UInt8)) : List UInt8 := L.flatMap (fun p => 47 :: p)

theorem slL_snoc (L : List (List UInt8)) (p : List UInt8) : slL (L ++ [p]) = slL L ++ 47 :: p := by simp [slL]

theorem slL_take (L : List (List UInt8)) (k : Nat) : (slL (L.take k)).length ≤ (slL L).length := by
 have : slL L = slL (L.take k) ++ slL (L.drop k) := by rw [slL, slL, slL, ← List.flatMap_append, List.take_append_drop]
 rw [this, List.length_append]; omega

end Go.Proofs.YtgoefeaopegdoaaGreatDoor

namespace Go.Proofs.YtgoefeaopegdoaaGreatDoor
open Go.RowKit

def Twelve (W : World) (b : Nat) (y0 y1 y2 y3 y4 y5 y6 y7 y8 y9 y10 y11 : Value) (X : World) : Prop := Below W.heap.size W X ∧ X.cell? ⟨b, 0, none⟩ = some y0 ∧ X.cell? ⟨b, 1, none⟩ = some y1 ∧ X.cell? ⟨b, 2, none⟩ = some y2 ∧ X.cell? ⟨b, 3, none⟩ = some y3 ∧ X.cell? ⟨b, 4, none⟩ = some y4 ∧ X.cell? ⟨b, 5, none⟩ = some y5 ∧ X.cell? ⟨b, 6, none⟩ = some y6 ∧ X.cell? ⟨b, 7, none⟩ = some y7 ∧ X.cell? ⟨b, 8, none⟩ = some y8 ∧ X.cell? ⟨b, 9, none⟩ = some y9 ∧ X.cell? ⟨b, 10, none⟩ = some y10 ∧ X.cell? ⟨b, 11, none⟩ = some y11

theorem Twelve.kept {W X Y : World} {b : Nat} {y0 y1 y2 y3 y4 y5 y6 y7 y8 y9 y10 y11 : Value} (h : Twelve W b y0 y1 y2 y3 y4 y5 y6 y7 y8 y9 y10 y11 X) (hb : Below X.heap.size X Y) : Twelve W b y0 y1 y2 y3 y4 y5 y6 y7 y8 y9 y10 y11 Y := by
 obtain ⟨h0, c0, c1, c2, c3, c4, c5, c6, c7, c8, c9, c10, c11⟩ := h
 have key : ∀ (j : Nat) (y : Value), X.cell? ⟨b, j, none⟩ = some y → Y.cell? ⟨b, j, none⟩ = some y := fun j y h => (hb.cell (World.block_lt_of_cell? X _ h)).trans h
 exact ⟨below2 h0 hb, key _ _ c0, key _ _ c1, key _ _ c2, key _ _ c3, key _ _ c4, key _ _ c5, key _ _ c6, key _ _ c7, key _ _ c8, key _ _ c9, key _ _ c10, key _ _ c11⟩

end Go.Proofs.YtgoefeaopegdoaaGreatDoor

namespace Go.Proofs.YtgoefeaopegdoaaGreatDoor
open Go.RowKit

theorem hostV_len (l : List UInt8) (b : Bool) (a : List UInt8) (h : parseV l b = some a) : a.length ≤ 3 * l.length + 1000 := by
 unfold parseV at h
 split at h
 ·unfold bracketV at h
  split at h
  ·cases hs : sixV (Lib.trimSuffix (l.drop 1) [93]) with
   | none => rw [hs] at h; cases h
   | some x =>
    rw [hs] at h
    simp only [Option.map_some, Option.some.injEq] at h
    have := text6_le x (sixV_ok hs).1
    rw [← h]; simp; omega
  ·cases h
 ·split at h
  ·unfold nameV at h
   split at h
   ·cases h
   ·split at h
    ·cases hf : fourV (low (unpct l)) with
     | none => rw [hf] at h; cases h
     | some n =>
      rw [hf] at h
      simp only [Option.map_some, Option.some.injEq] at h
      rw [← h]
      have := text4_le n
      omega
    ·simp only [Option.some.injEq] at h
     have h1 := unpct_le l
     rw [← h, show low (unpct l) = (unpct l).map lowC from rfl, List.length_map]
     omega
  ·unfold otherV at h
   split at h
   ·cases h
   ·simp only [Option.some.injEq] at h
    have := pct_le 1 l
    rw [← h]; omega

theorem slL_nil : slL [] = [] := rfl

theorem slL_drop (L : List (List UInt8)) : (slL L.dropLast).length ≤ (slL L).length := by
 rw [List.dropLast_eq_take]; exact slL_take L _

theorem slL_len (L : List (List UInt8)) : L.length ≤ (slL L).length := by
 induction L with
 | nil => simp
 | cons p L ih => simp only [slL, List.flatMap_cons, List.length_append, List.length_cons] at ih ⊢; omega

theorem slL_flat (L : List (List UInt8)) : L.flatten.length ≤ (slL L).length := by
 induction L with
 | nil => simp
 | cons p L ih => simp only [slL, List.flatMap_cons, List.length_append, List.length_cons, List.flatten_cons] at ih ⊢; omega

theorem stepP_sl (out : List (List UInt8)) (p : List UInt8) (mo : Bool) : (slL (stepP out p mo)).length ≤ (slL out).length + 1 + 3 * p.length := by
 have h1 := slL_drop out
 have h2 := pct_le 5 p
 rcases dotsV_cases p with h | h | h
 ·rw [stepP0 h, slL_snoc, List.length_append, List.length_cons]; omega
 ·cases mo
  ·rw [stepP1' h, slL_snoc, List.length_append, List.length_cons, List.length_nil]; omega
  ·rw [stepP1 h]; omega
 ·cases mo
  ·rw [stepP2' h, slL_snoc, List.length_append, List.length_cons, List.length_nil]; omega
  ·rw [stepP2 h]; omega

theorem pathL_sl (L : List (List UInt8)) : ∀ out, (slL (pathL out L)).length ≤ (slL out).length + 3 * (slL L).length := by
 induction L with
 | nil => intro out; rw [pathL]; omega
 | cons p L ih =>
  intro out
  have h3 : (slL (p :: L)).length = 1 + p.length + (slL L).length := by simp [slL]; omega
  by_cases h : L = []
  ·subst h
   rw [pathL_last]
   have := stepP_sl out p false
   omega
  ·rw [pathL_more out p L h]
   have h1 := stepP_sl out p true
   have h2 := ih (stepP out p true)
   omega

theorem cutL_sl (c : UInt8) (l : List UInt8) : (slL (cutL c l)).length = l.length + 1 := by
 induction l with
 | nil => rfl
 | cons x l ih =>
  rw [cutL]
  split
  ·have : slL ([] :: cutL c l) = 47 :: slL (cutL c l) := rfl
   rw [this, List.length_cons, ih]; rfl
  ·cases hc : cutL c l with
   | nil => exact absurd hc (cutL_ne c l)
   | cons h t =>
    rw [hc] at ih
    simp only [slL, List.flatMap_cons, List.length_append, List.length_cons] at ih ⊢
    omega

theorem pathV_sl (sp : Bool) (hv : List (List UInt8)) (s : List UInt8) : (slL (pathV sp hv s)).length ≤ (slL hv).length + 3 * (s.length + 1) := by
 unfold pathV
 split
 ·simp [slL_nil]
 ·have h1 := pathL_sl (cutL 47 (over1 s)) hv
  rw [cutL_sl] at h1
  have := over1_le s
  omega

def Slim (n : Nat) (u : Adr) : Prop :=
 (u.port = -1 ∨ (0 ≤ u.port ∧ u.port ≤ 65535)) ∧ u.scheme.length ≤ n ∧ u.user.length ≤ n ∧ u.pass.length ≤ n ∧ u.host.length ≤ n ∧ (slL u.path).length ≤ n ∧ u.query.length ≤ n ∧ u.fragment.length ≤ n

theorem Slim.mono {n m : Nat} {u : Adr} (h : Slim n u) (hn : n ≤ m) : Slim m u := by
 obtain ⟨h1, h2, h3, h4, h5, h6, h7, h8⟩ := h
 exact ⟨h1, by omega, by omega, by omega, by omega, by omega, by omega, by omega⟩

theorem ahead_len (ends l : List UInt8) : (aheadV ends l).1.length ≤ l.length ∧ (aheadV ends l).2.length ≤ l.length :=
 ⟨(List.takeWhile_prefix _).length_le, (List.dropWhile_suffix _).length_le⟩

theorem withQuery_slim {n : Nat} {u : Adr} {q : List UInt8} (h : Slim n u) (hq : 3 * q.length ≤ n) : Slim n (withQuery u q) := by
 unfold withQuery
 split
 ·exact h
 ·obtain ⟨h1, h2, h3, h4, h5, h6, h7, h8⟩ := h
  refine ⟨h1, h2, h3, h4, h5, h6, ?_, h8⟩
  show (querV _ (q.drop 1)).length ≤ n
  unfold querV
  have := pct_le (if specV u.scheme then 4 else 3) (q.drop 1)
  rw [List.length_drop] at this
  omega

theorem withPath_slim {n : Nat} {u : Adr} {hv : List (List UInt8)} {r : List UInt8} (h : Slim n u) (hr : (slL hv).length + 3 * (r.length + 1) ≤ n) : Slim n (withPath u hv r) := by
 have ha := ahead_len [63] r
 unfold withPath
 refine withQuery_slim ?_ (by omega)
 obtain ⟨h1, h2, h3, h4, h5, h6, h7, h8⟩ := h
 refine ⟨h1, h2, h3, h4, h5, ?_, h7, h8⟩
 have := pathV_sl (specV u.scheme) hv (aheadV [63] r).1
 show (slL (pathV _ hv _)).length ≤ n
 omega

theorem portV_ok {own : Int} {t : List UInt8} {p : Int} (h : portV own t = some p) : p = -1 ∨ (0 ≤ p ∧ p ≤ 65535) := by
 unfold portV at h
 split at h
 ·cases h; exact .inl rfl
 ·split at h
  ·rename_i h2
   simp only [Bool.and_eq_true, decide_eq_true_eq] at h2
   have h3 : 0 ≤ intV t := (intV_range t).1
   split at h
   ·cases h; exact .inl rfl
   ·cases h; exact .inr ⟨h3, h2.2⟩
  ·cases h

theorem authV_slim {sc s a b h : List UInt8} {p : Int} (e : authV sc s = .ok (a, b, h, p)) : (p = -1 ∨ (0 ≤ p ∧ p ≤ 65535)) ∧ a.length ≤ 3 * s.length ∧ b.length ≤ 3 * s.length ∧ h.length ≤ 3 * s.length + 1000 := by
 unfold authV at e
 split at e
 ·cases e
 ·rename_i q hq
  split at e
  ·cases e
  ·rename_i g hgp
   split at e
   ·cases e
   ·injection e with e
    simp only [Prod.mk.injEq] at e
    obtain ⟨rfl, rfl, rfl, rfl⟩ := e
    have h1 := at_le s
    have h2 := part_le 58 (atV s).1
    have h3 := pct_le 6 (part 58 (atV s).1).1
    have h4 := pct_le 6 (part 58 (atV s).1).2.1
    have h5 := hostV_len _ _ _ hgp
    rw [List.length_take] at h5
    refine ⟨portV_ok hq, by omega, by omega, by omega⟩

theorem withAuth_slim {n : Nat} {u v : Adr} {r : List UInt8} (h : Slim n u) (hr : 3 * r.length + 1003 ≤ n) (e : withAuth u r = .ok v) : Slim n v := by
 unfold withAuth at e
 split at e
 ·cases e
 ·rename_i a b hh p ha
  injection e with e
  subst e
  have hl := ahead_len [47, 63] r
  obtain ⟨k1, k2, k3, k4⟩ := authV_slim ha
  obtain ⟨h1, h2, h3, h4, h5, h6, h7, h8⟩ := h
  refine withPath_slim ⟨k1, h2, ?_, ?_, ?_, h6, h7, h8⟩ ?_
  ·show a.length ≤ n; omega
  ·show b.length ≤ n; omega
  ·show hh.length ≤ n; omega
  ·simp only [slL_nil, List.length_nil]; omega

theorem startV_slim {n : Nat} {u v : Adr} {r : List UInt8} (h : Slim n u) (hr : 3 * r.length + 1003 ≤ n) (e : startV u r = .ok v) : Slim n v := by
 unfold startV at e
 split at e
 ·refine withAuth_slim h ?_ e
  have := skip_le (slashV r)
  rw [slash_len] at this
  omega
 ·split at e
  ·refine withAuth_slim h ?_ e
   rw [List.length_drop]; omega
  ·split at e
   ·injection e with e
    subst e
    refine withPath_slim h ?_
    simp only [slL_nil, List.length_nil]; omega
   ·injection e with e
    subst e
    have ha := ahead_len [63] r
    have hp := pct_le 1 (aheadV [63] r).1
    refine withQuery_slim ?_ (by omega)
    obtain ⟨h1, h2, h3, h4, h5, h6, h7, h8⟩ := h
    refine ⟨h1, h2, h3, h4, h5, ?_, h7, h8⟩
    show (slL [pct 1 _]).length ≤ n
    simp only [slL, List.flatMap_cons, List.flatMap_nil, List.append_nil, List.length_cons]
    omega

theorem begin_slim (s : List UInt8) (n : Nat) (h : 3 * s.length ≤ n) : Slim n (beginU s).1 := by
 have h1 := clean_le s
 have h2 := part_le 35 (cleanV s)
 have h3 := pct_le 2 (part 35 (cleanV s)).2.1
 have h4 : (((schemeV (part 35 (cleanV s)).1).getD ([], (part 35 (cleanV s)).1)).1).length ≤ s.length := by
  unfold schemeV
  split
  ·have := part_le 58 (part 35 (cleanV s)).1
   rw [Option.getD_some, show (low (part 58 (part 35 (cleanV s)).1).1) = (part 58 (part 35 (cleanV s)).1).1.map lowC from rfl, List.length_map]
   omega
  ·simp
 refine ⟨.inl rfl, ?_, Nat.zero_le _, Nat.zero_le _, Nat.zero_le _, Nat.zero_le _, Nat.zero_le _, ?_⟩
 ·show _ ≤ n
  exact Nat.le_trans h4 (by omega)
 ·show (pct 2 (part 35 (cleanV s)).2.1).length ≤ n
  omega

theorem parse_slim {s : List UInt8} {u : Adr} (e : readV s none = .ok u) : Slim 20000 u := by
 unfold readV at e
 split at e
 ·cases e
 ·simp only at e
  split at e
  ·cases e
  ·have hl := begin_le s
   exact startV_slim (begin_slim s _ (by omega)) (by omega) e

end Go.Proofs.YtgoefeaopegdoaaGreatDoor

namespace Go.Proofs.YtgoefeaopegdoaaGreatDoor
open Go.RowKit

set_option maxHeartbeats 400000 in
theorem few_any (s : ByteArray) (n : Nat) (w : World) (hn : n ≤ 1000000) (hs : s.size ≤ 9223372036854775807) :
  Calls Tryz.prog 28 #[.string s, .int .i64 n] w fun e w' => e = .returned (.string ⟨(s.data.toList.take n).toArray⟩) ∧ w = w' := by
 by_cases h : n < s.size
 ·have h' : (n : Int) < (s.size : Int) := by omega
  have HE := hid (show s.extract 0 n = ⟨(s.data.toList.take n).toArray⟩ from ba_ext (by rw [Lib.extract_data]; simp))
  go_enter Tryz.func28, Tryz.ntmps28
  go_wp2
  go_ret
  rw [← HE.out]
  exact ⟨rfl, rfl⟩
 ·have h' : ¬ ((n : Int) < (s.size : Int)) := by omega
  have HE := hid (show s = ⟨(s.data.toList.take n).toArray⟩ from ba_ext (by rw [List.take_of_length_le (by simp; omega)]))
  go_enter Tryz.func28, Tryz.ntmps28
  go_wp2
  go_ret
  rw [← HE.out]
  exact ⟨rfl, rfl⟩

end Go.Proofs.YtgoefeaopegdoaaGreatDoor
