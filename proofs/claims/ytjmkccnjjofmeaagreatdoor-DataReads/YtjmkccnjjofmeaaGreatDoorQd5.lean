/-
  Walks and plain facts that this claim leans on, put together out of 1 texts: Ed.
-/
import Derived.Test.YtjmkccnjjofmeaaGreatDoorProg
import Derived.Test.YtjmkccnjjofmeaaGreatDoorQa1
import Derived.Test.YtjmkccnjjofmeaaGreatDoorQa2
import Derived.Test.YtjmkccnjjofmeaaGreatDoorQa3
import Derived.Test.YtjmkccnjjofmeaaGreatDoorQa4
import Derived.Test.YtjmkccnjjofmeaaGreatDoorQa5
import Derived.Test.YtjmkccnjjofmeaaGreatDoorQa6
import Derived.Test.YtjmkccnjjofmeaaGreatDoorQa7
import Derived.Test.YtjmkccnjjofmeaaGreatDoorQa8
import Derived.Test.YtjmkccnjjofmeaaGreatDoorQa9
import Derived.Test.YtjmkccnjjofmeaaGreatDoorQa10
import Derived.Test.YtjmkccnjjofmeaaGreatDoorQa11
import Derived.Test.YtjmkccnjjofmeaaGreatDoorQa12
import Derived.Test.YtjmkccnjjofmeaaGreatDoorQa13
import Derived.Test.YtjmkccnjjofmeaaGreatDoorQa14
import Derived.Test.YtjmkccnjjofmeaaGreatDoorQa15
import Derived.Test.YtjmkccnjjofmeaaGreatDoorQa16
import Derived.Test.YtjmkccnjjofmeaaGreatDoorQa17
import Derived.Test.YtjmkccnjjofmeaaGreatDoorQa18
import Derived.Test.YtjmkccnjjofmeaaGreatDoorQa19
import Derived.Test.YtjmkccnjjofmeaaGreatDoorQa20
import Derived.Test.YtjmkccnjjofmeaaGreatDoorQa21
import Derived.Test.YtjmkccnjjofmeaaGreatDoorQa22
import Derived.Test.YtjmkccnjjofmeaaGreatDoorQa23
import Derived.Test.YtjmkccnjjofmeaaGreatDoorQa24
import Derived.Test.YtjmkccnjjofmeaaGreatDoorQa25
import Derived.Test.YtjmkccnjjofmeaaGreatDoorQa26
import Derived.Test.YtjmkccnjjofmeaaGreatDoorQa27
import Derived.Test.YtjmkccnjjofmeaaGreatDoorQa28
import Derived.Test.YtjmkccnjjofmeaaGreatDoorQd1
import Derived.Test.YtjmkccnjjofmeaaGreatDoorQd2
import Derived.Test.YtjmkccnjjofmeaaGreatDoorQd3
import Derived.Test.YtjmkccnjjofmeaaGreatDoorQd4
import Derived.Laws.OwnMore
import Derived.Below
import Derived.WalkSmall
import Derived.Lib.SmallJoins
import Derived.Lib.SlTrimSet
import Derived.Lib.Join
import Derived.Lib.IndexMore
import Derived.BigRegion
import Derived.WalkKit
import Derived.Deep.RegionHeld
import Derived.LoopN
import Derived.RegionTactic
import Derived.Deep.Cut
import Derived.Deep.CutRange
import Derived.Deep.DeepCutAuto
import Derived.BigQuiet
import Derived.Deep.QuietTactic
import Derived.Deep.RegionWith
import Derived.Deep.RegionLaw
import Derived.Deep.WholeRow
import Derived.Scope
import Derived.ScopeJumps
import Derived.WalkMore
import Derived.Laws.AppendOwn
import Derived.OwnWalk
import Derived.Lib.AppendStr
import Derived.Lib.Replace
import Derived.Laws.IdiomStrings
import Derived.Laws.BytesString
import Derived.Deep.MidRow
import Derived.Maps.OwnSet
import Derived.Maps.OwnOps
import Derived.Maps.AppendAt
import Derived.StringKeys
import Derived.Lib.LastIndexByte
import Derived.Lib.BufferMore
import Derived.Shelf.Strings.Builder1
import Derived.Shelf.Strings.Builder2
import Derived.Shelf.Strings.OnBuilder
import Derived.Shelf.Strings.Trim
import Derived.Shelf.Small.Utf8
import Derived.Shelf.Small.Strs
import Derived.Shelf.Small.Wraps
import Derived.Shelf.Strings.BuilderF
import Derived.Shelf.Strings.BuilderK
import Derived.Shelf.Strings.Builder2Cap
import Derived.Shelf.Strconv.Itoa0
import Derived.Shelf.Strconv.Itoa1
import Derived.Shelf.LaysM
import Derived.Shelf.Strconv.Itoa2
import Derived.Shelf.Strconv.Itoa3
import Derived.Shelf.Strings.Search1
import Derived.Shelf.Strings.Search2
import Derived.Shelf.Strings.Search3
import Derived.Shelf.Strings.Cut
import Derived.Shelf.Strings.Count
import Derived.Shelf.Strings.Shaped
import Derived.Shelf.Strings.Prefix
import Derived.Shelf.Strings.Split
import Derived.Shelf.Strings.Replace
import Derived.Shelf.Strings.Runes
import Derived.Shelf.Strings.IndexAny
import Derived.Shelf.Strings.AsciiSet
import Derived.Shelf.Strings.IndexAnyAll
import Derived.Shelf.Unicode.DecodeSlow
import Derived.Lib.IndexAny
import Derived.Deep.LoopGhost
import Derived.WalkSpells
import Derived.WalkLawsBesides
import Derived.Laws.BitsAllLaws
import Derived.Lib.UnsafeStr
import Derived.Lib.AppendIntMem
import Derived.Laws.CopyOwn
import Derived.Laws.ResultCell
import Derived.Lib.BufferRead
import Derived.Lib.RuneBytes
import Derived.Laws.RangeAny
import Derived.Laws.CopyRow
import Derived.Lib.DecodeN
import Derived.Lib.OthersKept
import Derived.Lib.Strings
import Derived.Shelf.Strings.SlTrimAscii
import Derived.Lib.FrozenHead2
import Derived.Lib.Builder
import Derived.Laws.AppendOwnNone
import Derived.Lib.TrimByte
import Derived.Laws.Runes
import Derived.Lib.Bytealg
import Derived.Lib.ItoaNum
import Derived.Deep.RegionHeldLaw
set_option linter.unusedSimpArgs false
set_option linter.unusedVariables false

namespace Go.Proofs.YtjmkccnjjofmeaaGreatDoor
open Go.RowKit

/-- What both readers tell of an address. -/
def uniA (u : Adr) : ByteArray := if rdO u then ba (typV (rdK u)).major else ⟨#[]⟩

def uniM (u : Adr) : ByteArray := if rdO u then ba (typV (rdK u)).minor else ⟨#[]⟩

def uniP (u : Adr) : List Hd := if rdO u then (typV (rdK u)).params else []

def uniL (u : Adr) : List UInt8 := if rdO u then rdB u else []

def UniPost (A M : ByteArray) (ps : List Hd) (l : List UInt8) (o : Bool) (w : World) (e : Ending) (w' : World) : Prop :=
  ∃ v sl, e = .returned (.tuple #[knVal A M v, sl, .bool o]) ∧ HdAt w' v ps ∧ SlB w' sl l ∧ Below w.heap.size w w'

theorem RdPost.uni {u : Adr} {w w' : World} {e : Ending} (h : RdPost u w e w') : UniPost (uniA u) (uniM u) (uniP u) (uniL u) (rdO u) w e w' := by
  obtain ⟨hb, ⟨ho, rfl⟩ | ⟨ho, v, sl, rfl, hown, hnew⟩⟩ := h
  · refine ⟨.slice none 0 0, .slice none 0 0, ?_, ?_, ?_, hb⟩
    · unfold uniA uniM; rw [ho]; rfl
    · unfold uniP; rw [ho]; exact hd_nil _
    · unfold uniL; rw [ho]; exact .inl ⟨0, rfl, rfl⟩
  · refine ⟨v, sl, ?_, ?_, ?_, hb⟩
    · unfold uniA uniM; rw [ho]; rfl
    · unfold uniP; rw [ho]; exact own_hd hown
    · unfold uniL; rw [ho]; exact hnew.sl

theorem RrPost.uni {u : Adr} {w w' : World} {e : Ending} (h : RrPost u w e w') : UniPost (uniA u) (uniM u) (uniP u) (uniL u) (rdO u) w e w' := by
  obtain ⟨hb, ⟨ho, rfl⟩ | ⟨ho, v, sl, rfl, hown, hsl⟩⟩ := h
  · refine ⟨.slice none 0 0, .slice none 0 0, ?_, ?_, ?_, hb⟩
    · unfold uniA uniM; rw [ho]; rfl
    · unfold uniP; rw [ho]; exact hd_nil _
    · unfold uniL; rw [ho]; exact .inl ⟨0, rfl, rfl⟩
  · refine ⟨v, sl, ?_, ?_, ?_, hb⟩
    · unfold uniA uniM; rw [ho]; rfl
    · unfold uniP; rw [ho]; exact own_hd hown
    · unfold uniL; rw [ho]; exact hsl

theorem sl_slice {w : World} {v : Value} {l : List UInt8} (h : SlB w v l) : ∃ a n c, v = .slice a n c := by
  rcases h with ⟨c, rfl, _⟩ | ⟨x, cap, rfl, _⟩
  · exact ⟨_, _, _, rfl⟩
  · exact ⟨_, _, _, rfl⟩

set_option maxHeartbeats 4000000 in
set_option maxRecDepth 100000 in
theorem dataReads_walk (s : ByteArray) (whole : Bool) (w : World) (hs : s.size ≤ 140737488351232) (hg : Gd w) (hG : G5 w) :
    Calls Tryz.prog 4 #[.string s, .bool whole] w fun e w' => e = .returned (.bool true) ∧ Below w.heap.size w w' := by
  have Hg := hid hg
  have HG := hid hG
  obtain ⟨F, hF⟩ : ∃ F : ByteArray, ⟨(s.data.toList.take 290).toArray⟩ = F := ⟨_, rfl⟩
  have hFs : F.size ≤ 290 := by rw [← hF, Lib.size_eq]; show (s.data.toList.take 290).length ≤ _; rw [List.length_take]; omega
  have HFw := hid (fun w => few_any s 290 w (by omega) (by omega))
  rw [hF] at HFw
  clear hF hg hG
  obtain ⟨X, hX⟩ : ∃ X : ByteArray, (if whole then ⟨#[100, 97, 116, 97, 58]⟩ ++ F else F) = X := ⟨_, rfl⟩
  have hXs : X.size ≤ 1000 := by
    rw [← hX]
    split
    · rw [ByteArray.size_append]; show 5 + _ ≤ _; omega
    · omega
  have HUr := hid (fun w => url_k X w (by omega))
  have HFi := hid (fun u (h : urlV X.data.toList = .ok u) => parse_fine h)
  have HSm := hid (fun u (h : urlV X.data.toList = .ok u) => parse_slim h)
  have HOp := hid (fun u (h : urlV X.data.toList = .ok u) => opq_path h)
  obtain ⟨r, hr⟩ : ∃ r, urlV X.data.toList = r := ⟨_, rfl⟩
  rw [hr] at HUr HFi HSm HOp
  clear hr
  cases whole
  all_goals
    simp only [if_true, Bool.false_eq_true, if_false] at hX
    go_enter Tryz.func4, Tryz.ntmps4
    go_wp2_with fail
    refine (HFw.out _).mono ?_
    rintro e w' ⟨rfl, rfl⟩
    try subst hX
    go_wp2_with fail
    refine (HUr.out _).mono ?_
    rintro e w1 ⟨pv, rfl, hown, hb1⟩
    have HB1 := hid hb1
    have hsl := own_sl hown
    have hpa := own_path hown
    obtain ⟨a0, n0, c0, rfl⟩ := hsl
    obtain ⟨s0, s1, s2, s3, b4, i5, b6, s8, s9, b10, b11, hx⟩ : ∃ s0 s1 s2 s3 b4 i5 b6 s8 s9 b10 b11, adrCells (adrOf r) (.slice a0 n0 c0) = [.string s0, .string s1, .string s2, .string s3, .bool b4, .int .i64 i5, .bool b6, .slice a0 n0 c0, .string s8, .string s9, .bool b10, .bool b11] := ⟨_, _, _, _, _, _, _, _, _, _, _, rfl⟩
    have hva : adrVal (adrOf r) (.slice a0 n0 c0) = .agg #[.string s0, .string s1, .string s2, .string s3, .bool b4, .int .i64 i5, .bool b6, .slice a0 n0 c0, .string s8, .string s9, .bool b10, .bool b11] := by unfold adrVal; rw [hx]
    have h2 : AdrIn (w1.alloc (.cells #[.string s0, .string s1, .string s2, .string s3, .bool b4, .int .i64 i5, .bool b6, .slice a0 n0 c0, .string s8, .string s9, .bool b10, .bool b11] 32)) w1.heap.size (adrOf r) (.slice a0 n0 c0) := by
      have := heap_alloc_new w1 (.cells #[.string s0, .string s1, .string s2, .string s3, .bool b4, .int .i64 i5, .bool b6, .slice a0 n0 c0, .string s8, .string s9, .bool b10, .bool b11] 32)
      unfold AdrIn
      rw [hx]
      exact this
    have hb2 : Below w1.heap.size w1 (w1.alloc (.cells #[.string s0, .string s1, .string s2, .string s3, .bool b4, .int .i64 i5, .bool b6, .slice a0 n0 c0, .string s8, .string s9, .bool b10, .bool b11] 32)) := (Below.refl _ w1).alloc (Nat.le_refl _) _
    have HB2 := hid (below2 hb1 hb2)
    have HPa := hid (hpa.kept hb2)
    have HV := hid hva
    have HX := hid hx
    have H2 := hid h2
    rw [hva]
    clear hva hx hpa hb2 hown hb1 h2
    cases r with
    | error e =>
      simp only [isOk]
      go_wp2_with fail
      refine (known_d _ (Hg.out.kept HB2.out) (HG.out.kept HB2.out)).mono ?_
      rintro e w3 ⟨rfl, hb3⟩
      have HB3 := hid (below2 HB2.out hb3)
      clear hb3
      go_wp2_with fail
      go_ret
      exact ⟨rfl, HB3.out⟩
    | ok u =>
      have hf := HFi.out u rfl
      have hsm := HSm.out u rfl
      have hop := HOp.out u rfl
      simp only [adrOf] at HV HPa HX H2
      have HRd : Hid (∀ w, Gd w → G5 w → PathAt w (.slice a0 n0 c0) u.path → Calls Tryz.prog 13 #[.agg #[.string s0, .string s1, .string s2, .string s3, .bool b4, .int .i64 i5, .bool b6, .slice a0 n0 c0, .string s8, .string s9, .bool b10, .bool b11]] w (UniPost (uniA u) (uniM u) (uniP u) (uniL u) (rdO u) w)) := fun w hg hG hp => by
        rw [← HV.out]; exact (read_d u (.slice a0 n0 c0) w hg hG hf hp).mono fun e w' h => h.uni
      have HRr : Hid (∀ w, PathAt w (.slice a0 n0 c0) u.path → Calls Tryz.prog 14 #[.agg #[.string s0, .string s1, .string s2, .string s3, .bool b4, .int .i64 i5, .bool b6, .slice a0 n0 c0, .string s8, .string s9, .bool b10, .bool b11]] w (UniPost (uniA u) (uniM u) (uniP u) (uniL u) (rdO u) w)) := fun w hp => by
        rw [← HV.out]; exact (rread7_any u (.slice a0 n0 c0) w hp hsm hop).mono fun e w' h => h.uni
      obtain ⟨A, hA⟩ : ∃ A, uniA u = A := ⟨_, rfl⟩
      obtain ⟨M, hM⟩ : ∃ A, uniM u = A := ⟨_, rfl⟩
      obtain ⟨ps, hps⟩ : ∃ A, uniP u = A := ⟨_, rfl⟩
      obtain ⟨l, hl⟩ : ∃ A, uniL u = A := ⟨_, rfl⟩
      obtain ⟨o, ho⟩ : ∃ A, rdO u = A := ⟨_, rfl⟩
      rw [hA, hM, hps, hl, ho] at HRd HRr
      clear hA hM hps hl ho
      clear hf hsm hop HFi HSm HOp HV
      simp only [isOk]
      go_wp2_with fail
      refine (HRd.out _ (Hg.out.kept HB2.out) (HG.out.kept HB2.out) HPa.out).mono ?_
      rintro e w3 ⟨v1, sl1, rfl, hh1, hs1, hb3⟩
      unfold knVal
      have HB3 := hid (below2 HB2.out hb3)
      have H3 := hid (H2.out.kept hb3)
      have HP3 := hid (HPa.out.kept hb3)
      have HH1 := hid hh1
      have HS1 := hid hs1
      obtain ⟨x1, k1, rfl, hk1, hm1, hv1⟩ := hh1.view
      obtain ⟨q1, q2, q3, rfl⟩ := sl_slice hs1
      have h4 : Tri (w3.alloc (.cells #[.string A, .string M, .slice x1 ps.length k1] 26)) w3.heap.size A M (.slice x1 ps.length k1) := heap_alloc_new _ _
      have hb4 : Below w3.heap.size w3 (w3.alloc (.cells #[.string A, .string M, .slice x1 ps.length k1] 26)) := (Below.refl _ _).alloc (Nat.le_refl _) _
      have HB4 := hid (below2 HB3.out hb4)
      have hcs := adr_cells (H3.out.kept hb4)
      rw [HX.out] at hcs
      have y0 := hcs 0 _ rfl
      have y1 := hcs 1 _ rfl
      have y2 := hcs 2 _ rfl
      have y3 := hcs 3 _ rfl
      have y4 := hcs 4 _ rfl
      have y5 := hcs 5 _ rfl
      have y6 := hcs 6 _ rfl
      have y7 := hcs 7 _ rfl
      have y8 := hcs 8 _ rfl
      have y9 := hcs 9 _ rfl
      have y10 := hcs 10 _ rfl
      have y11 := hcs 11 _ rfl
      have HP4 := hid (HP3.out.kept hb4)
      have HH4 := hid (HH1.out.kept hb4)
      have HS4 := hid (HS1.out.kept hb4)
      have H4 := hid h4
      clear hcs hb4 h4 hb3 hh1 hs1 hv1 hk1 hm1
      go_wp2_with fail
      refine (HRr.out _ HP4.out).mono ?_
      rintro e w5 ⟨v2, sl2, rfl, hh2, hs2, hb5⟩
      unfold knVal
      clear y0 y1 y2 y3 y4 y5 y6 y7 y8 y9 y10 y11
      have HH2 := hid hh2
      have HS2 := hid hs2
      obtain ⟨x2, k2, rfl, hk2, hm2, hv2⟩ := hh2.view
      obtain ⟨p1, p2, p3, rfl⟩ := sl_slice hs2
      have h6 : TriR (w5.alloc (.cells #[.string A, .string M, .slice x2 ps.length k2] 39)) w5.heap.size A M (.slice x2 ps.length k2) := heap_alloc_new _ _
      have hb6 : Below w5.heap.size w5 (w5.alloc (.cells #[.string A, .string M, .slice x2 ps.length k2] 39)) := (Below.refl _ _).alloc (Nat.le_refl _) _
      have hb56 := below2 hb5 hb6
      have HB6 := hid (below2 HB4.out hb56)
      have h46 := H4.out.kept hb56
      have hcv1 := (HS4.out.kept hb56).string (P := Tryz.prog) Tryz.underlying27 Tryz.underlying5 Tryz.underlying9
      have hcv2 := (HS2.out.kept hb6).string (P := Tryz.prog) Tryz.underlying27 Tryz.underlying5 Tryz.underlying9
      obtain ⟨t0, t1, t2⟩ := h46.cells
      obtain ⟨r0, r1, r2⟩ := h6.cells
      have HT1 := hid h46
      have HT2 := hid h6
      have HV1 := hid (HH4.out.kept hb56)
      have HV2 := hid (HH2.out.kept hb6)
      clear hb56 h46 h6 hb6 hb5 hh2 hs2 hv2 hk2 hm2
      have HKnown := hid (fun (Y : World) (hY : Below w.heap.size w Y) => known_d Y (Hg.out.kept hY) (HG.out.kept hY))
      obtain ⟨W, hW⟩ : ∃ W, w5.alloc (.cells #[.string A, .string M, .slice x2 ps.length k2] 39) = W := ⟨_, rfl⟩
      rw [hW] at hcv1 hcv2 t0 t1 t2 r0 r1 r2 HT1 HT2 HV1 HV2 HB6
      have hpl : ps.length ≤ 9223372036854775807 := by
        obtain ⟨_, _, _, h1, h2, _⟩ := HV1.out.view
        unfold maxLen at h2
        omega
      cases o
      all_goals
        go_wp2_with fail
        clear hcv1 hcv2 hW
        go_loopw [13] (fun i wr => ∃ k : Nat, k ≤ ps.length ∧ i = .int .i64 k ∧ Below W.heap.size W wr) (fun i _ => ps.length - (intOf i).toNat)
        case atStart => exact ⟨0, Nat.zero_le _, rfl, Below.refl _ _⟩
        case round =>
          obtain ⟨k, hk, rfl, hbw⟩ := hrel
          have HBw := hid hbw
          obtain ⟨t0, t1, t2⟩ := (HT1.out.kept hbw).cells
          obtain ⟨r0, r1, r2⟩ := (HT2.out.kept hbw).cells
          by_cases hlt : k < ps.length
          · have hlt' : (k : Int) < (ps.length : Int) := by omega
            obtain ⟨_, _, e0, _, _, hv1⟩ := (HV1.out.kept hbw).view
            injection e0 with e01 e02 e03
            obtain ⟨b1, o1, hx1, c1, c2⟩ := hv1 k hlt
            obtain ⟨_, _, e0', _, _, hv2⟩ := (HV2.out.kept hbw).view
            injection e0' with e01' e02' e03'
            obtain ⟨b2, o2, hx2, d1, d2⟩ := hv2 k hlt
            subst e01 e01'
            subst hx1 hx2
            obtain ⟨N1, hN1⟩ : ∃ X : ByteArray, ⟨ps[k].name.toArray⟩ = X := ⟨_, rfl⟩
            obtain ⟨N2, hN2⟩ : ∃ X : ByteArray, ⟨ps[k].value.toArray⟩ = X := ⟨_, rfl⟩
            rw [hN1] at c1 d1
            rw [hN2] at c2 d2
            clear hN1 hN2 e02 e02' e03 e03' hv1 hv2 hbw
            go_wp2_with fail
            go_quiet (fail)
            go_wp2_with fail
            go_roundw
            case rel => exact ⟨k + 1, by omega, by go_num, below_drewN HBw.out _⟩
            case measure => simp [intOf]; omega
          · have hlt' : ¬ (k : Int) < (ps.length : Int) := by omega
            have HQ := hid (below2 HB6.out HBw.out)
            go_wp2_with fail
            refine (HKnown.out _ HQ.out).mono ?_
            rintro e wf ⟨rfl, hbf⟩
            have HF := hid (below2 HQ.out hbf)
            clear hbf
            go_wp2_with fail
            go_ret
            exact ⟨rfl, HF.out⟩

end Go.Proofs.YtjmkccnjjofmeaaGreatDoor
