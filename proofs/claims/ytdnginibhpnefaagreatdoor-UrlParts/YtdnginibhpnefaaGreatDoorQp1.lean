/-
  Walks and plain facts that this claim leans on, put together out of 1 texts: Erw.
-/
import Derived.Test.YtdnginibhpnefaaGreatDoorProg
import Derived.Test.YtdnginibhpnefaaGreatDoorQa1
import Derived.Test.YtdnginibhpnefaaGreatDoorQa2
import Derived.Test.YtdnginibhpnefaaGreatDoorQa3
import Derived.Test.YtdnginibhpnefaaGreatDoorQa4
import Derived.Test.YtdnginibhpnefaaGreatDoorQa5
import Derived.Test.YtdnginibhpnefaaGreatDoorQa6
import Derived.Test.YtdnginibhpnefaaGreatDoorQa7
import Derived.Test.YtdnginibhpnefaaGreatDoorQa8
import Derived.Test.YtdnginibhpnefaaGreatDoorQa9
import Derived.Test.YtdnginibhpnefaaGreatDoorQa10
import Derived.Test.YtdnginibhpnefaaGreatDoorQa11
import Derived.Test.YtdnginibhpnefaaGreatDoorQa12
import Derived.Test.YtdnginibhpnefaaGreatDoorQa13
import Derived.Test.YtdnginibhpnefaaGreatDoorQa14
import Derived.Test.YtdnginibhpnefaaGreatDoorQa15
import Derived.Test.YtdnginibhpnefaaGreatDoorQa16
import Derived.Test.YtdnginibhpnefaaGreatDoorQa17
import Derived.Test.YtdnginibhpnefaaGreatDoorQa18
import Derived.Test.YtdnginibhpnefaaGreatDoorQa19
import Derived.Test.YtdnginibhpnefaaGreatDoorQa20
import Derived.Test.YtdnginibhpnefaaGreatDoorQa21
import Derived.Test.YtdnginibhpnefaaGreatDoorQa22
import Derived.Test.YtdnginibhpnefaaGreatDoorQa23
import Derived.Test.YtdnginibhpnefaaGreatDoorQa24
import Derived.Test.YtdnginibhpnefaaGreatDoorQa25
import Derived.Test.YtdnginibhpnefaaGreatDoorQa26
import Derived.Test.YtdnginibhpnefaaGreatDoorQa27
import Derived.Test.YtdnginibhpnefaaGreatDoorQa28
import Derived.Test.YtdnginibhpnefaaGreatDoorQa29
import Derived.Test.YtdnginibhpnefaaGreatDoorQa30
import Derived.Test.YtdnginibhpnefaaGreatDoorQa31
import Derived.Test.YtdnginibhpnefaaGreatDoorQa32
import Derived.Test.YtdnginibhpnefaaGreatDoorQa33
import Derived.Lib.SlTrimSet
import Derived.Lib.Join
import Derived.Lib.IndexMore
import Derived.Deep.LoopGhost
import Derived.OwnWalk
import Derived.Deep.RegionHeld
import Derived.Deep.Cut
import Derived.Deep.CutRange
import Derived.Deep.QuietTactic
import Derived.BigQuiet
import Derived.BigRegion
import Derived.Deep.RegionWith
import Derived.Laws.IdiomStrings
import Derived.Laws.BytesString
import Derived.Lib.AppendStr
import Derived.Scope
import Derived.ScopeJumps
import Derived.WalkMore
import Derived.WalkKit
import Derived.WalkSpells
import Derived.WalkLawsBesides
import Derived.Lib.IndexAny
import Derived.Lib.Replace
import Derived.Lib.TrimByte
import Derived.Lib.ItoaNum
import Derived.Lib.AppendIntMem
import Derived.Lib.SmallJoins
import Derived.WalkSmall
import Derived.Laws.AppendOwnNone
import Derived.Lib.FrozenHead2
import Derived.Lib.OthersKept
import Derived.Lib.Builder
import Derived.Laws.BitsAllLaws
import Derived.Deep.MidRow
import Derived.Lib.UnsafeStr
import Derived.Deep.RegionLaw
import Derived.Lib.BufferMore
import Derived.Laws.CopyOwn
import Derived.Laws.ResultCell
import Derived.LoopN
import Derived.Lib.LastIndexByte
import Derived.RegionTactic
import Derived.Laws.AppendOwn
import Derived.Laws.RangeAny
import Derived.Lib.DecodeN
import Derived.Shelf.Strings.Builder1
import Derived.Shelf.Strings.Builder2
import Derived.Shelf.Strings.OnBuilder
import Derived.Shelf.Strings.Trim
import Derived.Shelf.Small.Utf8
import Derived.Shelf.Small.Strs
import Derived.Shelf.Small.Wraps
import Derived.Shelf.Strings.BuilderF
import Derived.Shelf.Strings.BuilderK
import Derived.Shelf.Strings.Builder2Cap
import Derived.Shelf.Strconv.Itoa0
import Derived.Shelf.Strconv.Itoa1
import Derived.Shelf.LaysM
import Derived.Shelf.Strconv.Itoa2
import Derived.Shelf.Strconv.Itoa3
import Derived.Shelf.Strings.Search1
import Derived.Shelf.Strings.Search2
import Derived.Shelf.Strings.Search3
import Derived.Shelf.Strings.Cut
import Derived.Shelf.Strings.Count
import Derived.Shelf.Strings.Shaped
import Derived.Shelf.Strings.LastIndex
import Derived.Shelf.Strings.Prefix
import Derived.Shelf.Strings.Split
import Derived.Shelf.Strings.Replace
import Derived.Shelf.Strings.Runes
import Derived.Shelf.Strings.IndexAny
import Derived.Shelf.Strings.AsciiSet
import Derived.Shelf.Strings.IndexAnyAll
import Derived.Shelf.Unicode.DecodeSlow
import Derived.Ground.Names2Prog
import Derived.Shelf.Slices.Clone
import Derived.Ground.SlgnProg
import Derived.Shelf.SlicesE.Clone
import Derived.Lib.BufferRead
import Derived.Lib.RuneBytes
import Derived.Lib.Bytealg
import Derived.Laws.OwnMore
import Derived.Lib.Strings
import Derived.Deep.WholeRow
set_option linter.unusedSimpArgs false
set_option linter.unusedVariables false

namespace Go.Proofs.YtdnginibhpnefaaGreatDoor
open Go.RowKit

theorem adr_named3 (A : Adr) (a : Option Addr) (n c : Nat) : ∃ s0 s1 s2 s3 b4 i5 b6 s8 s9 b10 b11, adrCells A (.slice a n c) = [.string s0, .string s1, .string s2, .string s3, .bool b4, .int .i64 i5, .bool b6, .slice a n c, .string s8, .string s9, .bool b10, .bool b11] ∧ s0 = (⟨A.scheme.toArray⟩ : ByteArray) ∧ s3 = (⟨A.host.toArray⟩ : ByteArray) ∧ b4 = A.hasHost ∧ i5 = A.port ∧ b6 = A.opq ∧ s8 = (⟨A.query.toArray⟩ : ByteArray) ∧ s9 = (⟨A.fragment.toArray⟩ : ByteArray) ∧ b10 = A.hasQuery ∧ b11 = A.hasFragment := ⟨_, _, _, _, _, _, _, _, _, _, _, rfl, rfl, rfl, rfl, rfl, rfl, rfl, rfl, rfl, rfl⟩

theorem path_cell {w : World} {a : Option Addr} {n c : Nat} {L : List (List UInt8)} (h : PathAt w (.slice a n c) L) (k : Nat) (hk : k < L.length) : ∃ b, a = some ⟨b, 0, none⟩ ∧ w.cell? ⟨b, k, none⟩ = some (.string ⟨L[k].toArray⟩) ∧ n = L.length ∧ n ≤ c ∧ c ≤ maxLen := by
  rcases h with ⟨_, rfl⟩ | ⟨b, cap, hv, h2, h3, h4, h5⟩
  · simp at hk
  · injection hv with e1 e2 e3
    subst e1 e2 e3
    exact ⟨b, rfl, h5 k hk, rfl, h3, h4⟩

theorem empty_no3 (s : ByteArray) (h : s.data.toList ≠ []) : s.toList.isEmpty = false := by
  rw [Lib.toList_data]; simpa using h

theorem path_len {w : World} {a : Option Addr} {n c : Nat} {L : List (List UInt8)} (h : PathAt w (.slice a n c) L) : n = L.length := by
  rcases h with ⟨hv, rfl⟩ | ⟨b, cap, hv, h2, h3, h4, h5⟩
  · injection hv
  · injection hv

set_option maxHeartbeats 8000000 in
set_option maxRecDepth 100000 in
theorem urlParts_walk (s : ByteArray) (w : World) (hs : s.size ≤ 140737488351232) (hg : Gd w) :
    Calls Tryz.prog 8 #[.string s] w fun e w' => e = .returned (.bool true) ∧ Below w.heap.size w w' := by
  obtain ⟨F, hF⟩ : ∃ F : ByteArray, ⟨(s.data.toList.take 500).toArray⟩ = F := ⟨_, rfl⟩
  have hFs : F.size ≤ 100000 := by rw [← hF, Lib.size_eq]; show (s.data.toList.take 500).length ≤ _; rw [List.length_take]; omega
  have HFw := hid (fun w => few_any s 500 w (by omega) (by omega))
  rw [hF] at HFw
  have HPa := hid (uparse_any F w hg hFs)
  have HKn := hid (fun (Z : World) (hZ : Gd Z) => known3_any Z hZ)
  have HG := hid hg
  cases hr : readV F.data.toList none with
  | error x =>
    have hx0 := err_ne (read_err hr)
    have hx1 := err_bne (read_err hr)
    rw [hr] at HPa
    unfold ReadPost at HPa
    simp only [numOf] at HPa
    obtain ⟨A, hA⟩ : ∃ A, adrOf (.error x) = A := ⟨_, rfl⟩
    rw [hA] at HPa
    clear hr hA hg hF
    go_enter Tryz.func8, Tryz.ntmps8
    go_wp2_with fail
    refine (HFw.out _).mono ?_
    rintro e w' ⟨rfl, rfl⟩
    go_wp2_with fail
    refine HPa.out.mono ?_
    rintro e w1 ⟨pv, rfl, hown, hb1⟩
    obtain ⟨ua, un, uc, rfl⟩ := own_sl hown
    obtain ⟨u0, u1, u2, u3, u4, u5, u6, u8, u9, u10, u11, hxu⟩ := adr_cells A ua un uc
    have hvu : adrVal A (.slice ua un uc) = .agg #[.string u0, .string u1, .string u2, .string u3, .bool u4, .int .i64 u5, .bool u6, .slice ua un uc, .string u8, .string u9, .bool u10, .bool u11] := by unfold adrVal; rw [hxu]
    rw [hvu]
    obtain ⟨W2, hW2⟩ : ∃ X, (w1.alloc (.cells #[.string u0, .string u1, .string u2, .string u3, .bool u4, .int .i64 u5, .bool u6, .slice ua un uc, .string u8, .string u9, .bool u10, .bool u11] 24)) = X := ⟨_, rfl⟩
    have hbW2 : Below w1.heap.size w1 W2 := by rw [← hW2]; exact (Below.refl _ w1).alloc (Nat.le_refl _) _
    have hsW2 : W2.heap.size = w1.heap.size + 1 := by rw [← hW2]; simp
    have hAW2 : AdrIn W2 w1.heap.size A (.slice ua un uc) := by
      unfold AdrIn
      rw [hxu, ← hW2]
      exact heap_alloc_new w1 _
    have HB2 := hid (below2 hb1 hbW2)
    clear hown hb1 hbW2 hAW2 hxu hvu
    go_wp2_with fail
    refine (HKn.out _ (HG.out.kept HB2.out)).mono ?_
    rintro e w3 ⟨rfl, hb3⟩
    go_wp2
    go_ret
    exact ⟨rfl, below2 HB2.out hb3⟩
  | ok A =>
    have HGd := hid (read_good hr)
    have HF := hid (parse_fine hr)
    have HSee := hid (text_see (read_good hr))
    have hTl : (textV A).length ≤ 9000000 := by
      have h1 := bareV_le A HF.out
      have h2 : A.fragment.length ≤ 20000 := by
        have := parse_slim hr
        unfold Slim at this
        exact this.2.2.2.2.2.2.2
      unfold textV
      rw [List.length_append]
      split <;> simp <;> omega
    have hPl : A.path.length ≤ 100000 := slim_path (parse_slim hr) (by omega)
    rw [hr] at HPa
    unfold ReadPost at HPa
    simp only [numOf, adrOf] at HPa
    clear hr hg hF
    go_enter Tryz.func8, Tryz.ntmps8
    go_wp2_with fail
    refine (HFw.out _).mono ?_
    rintro e w' ⟨rfl, rfl⟩
    go_wp2_with fail
    refine HPa.out.mono ?_
    rintro e w1 ⟨pv, rfl, hown, hb1⟩
    obtain ⟨ua, un, uc, rfl⟩ := own_sl hown
    obtain ⟨u0, u1, u2, u3, u4, u5, u6, u8, u9, u10, u11, hxu, he0, he3, he4, he5, he6, he8, he9, he10, he11⟩ := adr_named3 A ua un uc
    have hvu : adrVal A (.slice ua un uc) = .agg #[.string u0, .string u1, .string u2, .string u3, .bool u4, .int .i64 u5, .bool u6, .slice ua un uc, .string u8, .string u9, .bool u10, .bool u11] := by unfold adrVal; rw [hxu]
    rw [hvu]
    obtain ⟨W2, hW2⟩ : ∃ X, (w1.alloc (.cells #[.string u0, .string u1, .string u2, .string u3, .bool u4, .int .i64 u5, .bool u6, .slice ua un uc, .string u8, .string u9, .bool u10, .bool u11] 24)) = X := ⟨_, rfl⟩
    have hbW2 : Below w1.heap.size w1 W2 := by rw [← hW2]; exact (Below.refl _ w1).alloc (Nat.le_refl _) _
    have hsW2 : W2.heap.size = w1.heap.size + 1 := by rw [← hW2]; simp
    have hAW2 : AdrIn W2 w1.heap.size A (.slice ua un uc) := by
      unfold AdrIn
      rw [hxu, ← hW2]
      exact heap_alloc_new w1 _
    have hpa := (own_path hown).kept hbW2
    have hun := path_len hpa
    have HB2 := hid (below2 hb1 hbW2)
    have HT := hid (fun (Z : World) (hZ : Below W2.heap.size W2 Z) => text_any A (.slice ua un uc) Z (HG.out.kept (below2 HB2.out hZ)) (hpa.kept hZ) HF.out)
    rw [hvu] at HT
    have HPA := hid hpa
    have HAA := hid hAW2
    have HX := hid hxu
    have HSp := hid (fun w => special_any u0 w)
    have HOw := hid (fun w => own_any u0 w)
    rw [show u0.data.toList = A.scheme by rw [he0]] at HSp HOw
    obtain ⟨OW, hOW⟩ : ∃ x, ownV A.scheme = x := ⟨_, rfl⟩
    rw [hOW] at HOw
    have HE := hid (And.intro he3 (And.intro he4 (And.intro he5 (And.intro he6 (And.intro he8 (And.intro he9 (And.intro he10 (And.intro he11 (And.intro hun hOW)))))))))
    obtain ⟨y0, y1, y2, y3, y4, y5, y6, y7, y8, y9, y10, y11⟩ := adr_twelve hxu hAW2
    clear hown hb1 hbW2 hAW2 hxu hvu hpa he0 he3 he4 he5 he6 he8 he9 he10 he11 hun hOW
    go_upto_region 4 with fail
    go_cut [70] from 17 to 69 (fun x wx => x = .bool false ∧ ∃ nq, wx = W2.drewN nq)
    case first =>
      have hq : (specV A.scheme = true → u3.toList.isEmpty = false ∧ ((un : Int) == 0) = false ∧ u6 = false) ∧ (u5 = -1 ∨ ((u5 != -1) = true ∧ decide (u5 < 0) = false ∧ decide (65535 < u5) = false ∧ (u5 == OW) = false ∧ u4 = true)) ∧ (u6 = true → u4 = false) := by
        obtain ⟨he3, he4, he5, he6, he8, he9, he10, he11, hun, hOW⟩ := HE.out
        refine ⟨fun hsp => ?_, ?_, fun h6 => ?_⟩
        · obtain ⟨g1, g2, g3⟩ := HGd.out.special hsp
          refine ⟨empty_no3 u3 (by rw [he3]; exact g1), ?_, by rw [he6]; exact g3⟩
          rw [beq_eq_false_iff_ne, hun]
          have := List.length_pos_iff.2 g2
          omega
        · rcases HGd.out.pre.port with g | ⟨g1, g2, g3, g4⟩
          · exact .inl (by rw [he5]; exact g)
          · refine .inr ⟨?_, ?_, ?_, ?_, by rw [he4]; exact g4⟩
            · rw [bne_iff_ne, he5]; omega
            · rw [decide_eq_false_iff_not, he5]; omega
            · rw [decide_eq_false_iff_not, he5]; omega
            · rw [beq_eq_false_iff_ne, he5, ← hOW]; exact g3
        · rw [he4]; exact (HGd.out.opaque_ (by rw [← he6]; exact h6)).1
      obtain ⟨hq1, hq2, hq3⟩ := hq
      obtain ⟨sp, hsp⟩ : ∃ b, specV A.scheme = b := ⟨_, rfl⟩
      rw [hsp] at HSp hq1
      clear hsp
      cases sp with
      | true =>
        obtain ⟨hh, hn, rfl⟩ := hq1 rfl
        clear hq1 hq3
        rcases hq2 with rfl | ⟨p1, p2, p3, p4, rfl⟩
        · go_quiet (first | (go_at_call 29; refine Calls.quiet_of_same ((HSp.out _).mono fun _ _ h => ⟨h.1, h.2.symm⟩)) | (go_at_call 30; refine Calls.quiet_of_same ((HOw.out _).mono fun _ _ h => ⟨h.1, h.2.symm⟩)))
          go_wp2_with fail
          go_meet
          case rel => exact ⟨rfl, _, rfl⟩
        · go_quiet (first | (go_at_call 29; refine Calls.quiet_of_same ((HSp.out _).mono fun _ _ h => ⟨h.1, h.2.symm⟩)) | (go_at_call 30; refine Calls.quiet_of_same ((HOw.out _).mono fun _ _ h => ⟨h.1, h.2.symm⟩)))
          go_wp2_with fail
          go_meet
          case rel => exact ⟨rfl, _, rfl⟩
      | false =>
        clear hq1
        cases u6 with
        | true =>
          obtain rfl := hq3 rfl
          clear hq3
          rcases hq2 with rfl | ⟨p1, p2, p3, p4, p5⟩
          · go_quiet (first | (go_at_call 29; refine Calls.quiet_of_same ((HSp.out _).mono fun _ _ h => ⟨h.1, h.2.symm⟩)) | (go_at_call 30; refine Calls.quiet_of_same ((HOw.out _).mono fun _ _ h => ⟨h.1, h.2.symm⟩)))
            go_wp2_with fail
            go_meet
            case rel => exact ⟨rfl, _, rfl⟩
          · cases p5
        | false =>
          clear hq3
          rcases hq2 with rfl | ⟨p1, p2, p3, p4, rfl⟩
          · go_quiet (first | (go_at_call 29; refine Calls.quiet_of_same ((HSp.out _).mono fun _ _ h => ⟨h.1, h.2.symm⟩)) | (go_at_call 30; refine Calls.quiet_of_same ((HOw.out _).mono fun _ _ h => ⟨h.1, h.2.symm⟩)))
            go_wp2_with fail
            go_meet
            case rel => exact ⟨rfl, _, rfl⟩
          · go_quiet (first | (go_at_call 29; refine Calls.quiet_of_same ((HSp.out _).mono fun _ _ h => ⟨h.1, h.2.symm⟩)) | (go_at_call 30; refine Calls.quiet_of_same ((HOw.out _).mono fun _ _ h => ⟨h.1, h.2.symm⟩)))
            go_wp2_with fail
            go_meet
            case rel => exact ⟨rfl, _, rfl⟩
    case rest =>
      obtain ⟨rfl, nq, rfl⟩ := hcut
      have HB3 := hid (show Below W2.heap.size W2 (W2.drewN nq) from let h := Below.refl W2.heap.size W2; ⟨h.os, h.tape, h.output, h.size, h.block⟩)
      have HA3 := hid (HAA.out.kept HB3.out)
      have HP3 := hid (HPA.out.kept HB3.out)
      clear y0 y1 y2 y3 y4 y5 y6 y7 y8 y9 y10 y11
      generalize W2.drewN nq = W3 at *
      obtain ⟨y0, y1, y2, y3, y4, y5, y6, y7, y8, y9, y10, y11⟩ := adr_twelve HX.out HA3.out
      have hn5 : un ≤ 100000 := by rw [HE.out.2.2.2.2.2.2.2.2.1]; exact hPl
      have hun := HE.out.2.2.2.2.2.2.2.2.1
      have HUn := hid hun
      have HSee2 : Hid (∀ c ∈ textV A, seeB c = true ∧ (u6 = false → seeC c = true)) := fun c hc => ⟨(HSee.out c hc).1, fun h => (HSee.out c hc).2 (by rw [← HE.out.2.2.2.1]; exact h)⟩
      have HQ8 := hid (show (u10 = false → u8.toList.isEmpty = true) ∧ (u11 = false → u9.toList.isEmpty = true) by
        obtain ⟨he3, he4, he5, he6, he8, he9, he10, he11, hun, hOW⟩ := HE.out
        refine ⟨fun h => empty_yes u8 ?_, fun h => empty_yes u9 ?_⟩
        · rw [he8]; exact HGd.out.pre.noQ (by rw [← he10]; exact h)
        · rw [he9]; exact HGd.out.pre.noF (by rw [← he11]; exact h))
      have HPart : Hid (u6 = false → ∀ q ∈ A.path, PartOk q) := fun h => HGd.out.parts (by rw [← HE.out.2.2.2.1]; exact h)
      clear hun HE HGd HSee HAA HPA HSp HOw hPl
      obtain ⟨ob, hob⟩ : ∃ b, u6 = b := ⟨_, rfl⟩
      have HX6 := HX
      rw [hob] at HSee2 HPart y6 HT HX6
      clear hob HX
      cases ob with
      | true =>
        go_wp2_with fail
        go_loop [5] (fun iv => ∃ k : Nat, k ≤ un ∧ iv = .int .i64 k) (fun iv => un - (intOf iv).toNat)
        case atStart => exact ⟨0, Nat.zero_le _, rfl⟩
        case round =>
          obtain ⟨k, hk, rfl⟩ := hrel
          by_cases hlt : k < un
          · have hlt' : (k : Int) < (un : Int) := by omega
            go_wp2_with fail
            refine (HT.out _ HB3.out).mono ?_
            rintro e w5 ⟨rfl, hb5⟩
            obtain ⟨TT, hTT⟩ : ∃ X : ByteArray, X = ⟨(textV A).toArray⟩ := ⟨_, rfl⟩
            rw [← hTT]
            have hTd : TT.data.toList = textV A := by rw [hTT]
            have hTs : TT.size ≤ 9000000 := by rw [Lib.size_eq, hTT]; exact hTl
            have HTT := hid (show ∀ j (h : j < TT.size), seeB TT[j] = true ∧ (true = false → seeC TT[j] = true) from fun j h => by
              have hm : TT[j] ∈ TT.data.toList := by rw [ByteArray.getElem_eq_getElem_data]; exact Array.getElem_mem_toList _
              rw [hTd] at hm
              have := HSee2.out _ hm
              simpa using this)
            have HB5 := hid (below2 HB3.out hb5)
            have HA5 := hid (HA3.out.kept hb5)
            clear y0 y1 y2 y3 y4 y5 y6 y7 y8 y9 y10 y11 hb5 hTT hTd
            obtain ⟨z0, z1, z2, z3, z4, z5, z6, z7, z8, z9, z10, z11⟩ := adr_twelve HX6.out HA5.out
            go_wp2_with fail
            go_loop [7] (fun iv => ∃ j : Nat, j ≤ TT.size ∧ iv = .int .i64 j) (fun iv => TT.size - (intOf iv).toNat)
            case atStart => exact ⟨0, Nat.zero_le _, rfl⟩
            case round =>
              obtain ⟨j, hj, rfl⟩ := hrel
              by_cases hlj : j < TT.size
              · have hlj' : (j : Int) < (TT.size : Int) := by omega
                obtain ⟨g1, g2⟩ := HTT.out j hlj
                unfold seeB at g1
                rw [Bool.and_eq_true, decide_eq_true_iff, decide_eq_true_iff] at g1
                have h32 : decide ((TT[j].toNat : Int) < 32) = false := by rw [decide_eq_false_iff_not]; omega
                have h126 : decide ((126 : Int) < (TT[j].toNat : Int)) = false := by rw [decide_eq_false_iff_not]; omega
                clear g2
                by_cases hsp : TT[j].toNat = 32
                · have he : ((TT[j].toNat : Int) == 32) = true := by rw [beq_iff_eq]; omega
                  clear hsp g1
                  go_wp2_with fail
                  go_round
                  case rel => exact ⟨j + 1, by omega, by go_num⟩
                  case measure => simp [intOf]; omega
                · have he : ((TT[j].toNat : Int) == 32) = false := by rw [beq_eq_false_iff_ne]; omega
                  clear hsp g1
                  go_wp2_with fail
                  go_round
                  case rel => exact ⟨j + 1, by omega, by go_num⟩
                  case measure => simp [intOf]; omega
              · have hlj' : decide ((j : Int) < (TT.size : Int)) = false := by rw [decide_eq_false_iff_not]; omega
                obtain ⟨q8, q9⟩ := HQ8.out
                have HGf := hid (HG.out.kept (below2 HB2.out HB5.out))
                clear HX6 HA5 HA3
                cases u10 with
                | true =>
                  cases u11 with
                  | true =>
                    clear q8 q9
                    go_wp2_with fail
                    refine (HKn.out _ HGf.out).mono ?_
                    rintro e w7 ⟨rfl, hb7⟩
                    go_wp2
                    go_ret
                    exact ⟨rfl, below2 (below2 HB2.out HB5.out) hb7⟩
                  | false =>
                    have e9 := q9 rfl
                    clear q8 q9
                    go_wp2_with fail
                    refine (HKn.out _ HGf.out).mono ?_
                    rintro e w7 ⟨rfl, hb7⟩
                    go_wp2
                    go_ret
                    exact ⟨rfl, below2 (below2 HB2.out HB5.out) hb7⟩
                | false =>
                  have e8 := q8 rfl
                  cases u11 with
                  | true =>
                    clear q8 q9
                    go_wp2_with fail
                    refine (HKn.out _ HGf.out).mono ?_
                    rintro e w7 ⟨rfl, hb7⟩
                    go_wp2
                    go_ret
                    exact ⟨rfl, below2 (below2 HB2.out HB5.out) hb7⟩
                  | false =>
                    have e9 := q9 rfl
                    clear q8 q9
                    go_wp2_with fail
                    refine (HKn.out _ HGf.out).mono ?_
                    rintro e w7 ⟨rfl, hb7⟩
                    go_wp2
                    go_ret
                    exact ⟨rfl, below2 (below2 HB2.out HB5.out) hb7⟩
          · have hlt' : decide ((k : Int) < (un : Int)) = false := by rw [decide_eq_false_iff_not]; omega
            go_wp2_with fail
            refine (HT.out _ HB3.out).mono ?_
            rintro e w5 ⟨rfl, hb5⟩
            obtain ⟨TT, hTT⟩ : ∃ X : ByteArray, X = ⟨(textV A).toArray⟩ := ⟨_, rfl⟩
            rw [← hTT]
            have hTd : TT.data.toList = textV A := by rw [hTT]
            have hTs : TT.size ≤ 9000000 := by rw [Lib.size_eq, hTT]; exact hTl
            have HTT := hid (show ∀ j (h : j < TT.size), seeB TT[j] = true ∧ (true = false → seeC TT[j] = true) from fun j h => by
              have hm : TT[j] ∈ TT.data.toList := by rw [ByteArray.getElem_eq_getElem_data]; exact Array.getElem_mem_toList _
              rw [hTd] at hm
              have := HSee2.out _ hm
              simpa using this)
            have HB5 := hid (below2 HB3.out hb5)
            have HA5 := hid (HA3.out.kept hb5)
            clear y0 y1 y2 y3 y4 y5 y6 y7 y8 y9 y10 y11 hb5 hTT hTd
            obtain ⟨z0, z1, z2, z3, z4, z5, z6, z7, z8, z9, z10, z11⟩ := adr_twelve HX6.out HA5.out
            go_wp2_with fail
            go_loop [7] (fun iv => ∃ j : Nat, j ≤ TT.size ∧ iv = .int .i64 j) (fun iv => TT.size - (intOf iv).toNat)
            case atStart => exact ⟨0, Nat.zero_le _, rfl⟩
            case round =>
              obtain ⟨j, hj, rfl⟩ := hrel
              by_cases hlj : j < TT.size
              · have hlj' : (j : Int) < (TT.size : Int) := by omega
                obtain ⟨g1, g2⟩ := HTT.out j hlj
                unfold seeB at g1
                rw [Bool.and_eq_true, decide_eq_true_iff, decide_eq_true_iff] at g1
                have h32 : decide ((TT[j].toNat : Int) < 32) = false := by rw [decide_eq_false_iff_not]; omega
                have h126 : decide ((126 : Int) < (TT[j].toNat : Int)) = false := by rw [decide_eq_false_iff_not]; omega
                clear g2
                by_cases hsp : TT[j].toNat = 32
                · have he : ((TT[j].toNat : Int) == 32) = true := by rw [beq_iff_eq]; omega
                  clear hsp g1
                  go_wp2_with fail
                  go_round
                  case rel => exact ⟨j + 1, by omega, by go_num⟩
                  case measure => simp [intOf]; omega
                · have he : ((TT[j].toNat : Int) == 32) = false := by rw [beq_eq_false_iff_ne]; omega
                  clear hsp g1
                  go_wp2_with fail
                  go_round
                  case rel => exact ⟨j + 1, by omega, by go_num⟩
                  case measure => simp [intOf]; omega
              · have hlj' : decide ((j : Int) < (TT.size : Int)) = false := by rw [decide_eq_false_iff_not]; omega
                obtain ⟨q8, q9⟩ := HQ8.out
                have HGf := hid (HG.out.kept (below2 HB2.out HB5.out))
                clear HX6 HA5 HA3
                cases u10 with
                | true =>
                  cases u11 with
                  | true =>
                    clear q8 q9
                    go_wp2_with fail
                    refine (HKn.out _ HGf.out).mono ?_
                    rintro e w7 ⟨rfl, hb7⟩
                    go_wp2
                    go_ret
                    exact ⟨rfl, below2 (below2 HB2.out HB5.out) hb7⟩
                  | false =>
                    have e9 := q9 rfl
                    clear q8 q9
                    go_wp2_with fail
                    refine (HKn.out _ HGf.out).mono ?_
                    rintro e w7 ⟨rfl, hb7⟩
                    go_wp2
                    go_ret
                    exact ⟨rfl, below2 (below2 HB2.out HB5.out) hb7⟩
                | false =>
                  have e8 := q8 rfl
                  cases u11 with
                  | true =>
                    clear q8 q9
                    go_wp2_with fail
                    refine (HKn.out _ HGf.out).mono ?_
                    rintro e w7 ⟨rfl, hb7⟩
                    go_wp2
                    go_ret
                    exact ⟨rfl, below2 (below2 HB2.out HB5.out) hb7⟩
                  | false =>
                    have e9 := q9 rfl
                    clear q8 q9
                    go_wp2_with fail
                    refine (HKn.out _ HGf.out).mono ?_
                    rintro e w7 ⟨rfl, hb7⟩
                    go_wp2
                    go_ret
                    exact ⟨rfl, below2 (below2 HB2.out HB5.out) hb7⟩
      | false =>
        go_wp2_with fail
        go_loop [5] (fun iv => ∃ k : Nat, k ≤ un ∧ iv = .int .i64 k) (fun iv => un - (intOf iv).toNat)
        case atStart => exact ⟨0, Nat.zero_le _, rfl⟩
        case round =>
          obtain ⟨k, hk, rfl⟩ := hrel
          by_cases hlt : k < un
          · have hlt' : (k : Int) < (un : Int) := by omega
            have hkl : k < A.path.length := by rw [← HUn.out]; exact hlt
            obtain ⟨pb, rfl, hpc, -, hnc, hcm⟩ := path_cell HP3.out k hkl
            have hok := HPart.out (by first | rfl | trivial) A.path[k] (List.getElem_mem hkl)
            obtain ⟨PK, hPK⟩ : ∃ X : ByteArray, X = ⟨(A.path[k]).toArray⟩ := ⟨_, rfl⟩
            rw [← hPK] at hpc
            have hk1 : (PK.toList == [46]) = false := by rw [beq_eq_false_iff_ne, Lib.toList_data, hPK]; exact hok.2.1
            have hk2 : (PK.toList == [46, 46]) = false := by rw [beq_eq_false_iff_ne, Lib.toList_data, hPK]; exact hok.2.2
            unfold maxLen at hcm
            clear hPK hok hkl
            go_wp2_with fail
            go_round
            case rel => exact ⟨k + 1, by omega, by go_num⟩
            case measure => simp [intOf]; omega
          · have hlt' : decide ((k : Int) < (un : Int)) = false := by rw [decide_eq_false_iff_not]; omega
            go_wp2_with fail
            refine (HT.out _ HB3.out).mono ?_
            rintro e w5 ⟨rfl, hb5⟩
            obtain ⟨TT, hTT⟩ : ∃ X : ByteArray, X = ⟨(textV A).toArray⟩ := ⟨_, rfl⟩
            rw [← hTT]
            have hTd : TT.data.toList = textV A := by rw [hTT]
            have hTs : TT.size ≤ 9000000 := by rw [Lib.size_eq, hTT]; exact hTl
            have HTT := hid (show ∀ j (h : j < TT.size), seeB TT[j] = true ∧ (false = false → seeC TT[j] = true) from fun j h => by
              have hm : TT[j] ∈ TT.data.toList := by rw [ByteArray.getElem_eq_getElem_data]; exact Array.getElem_mem_toList _
              rw [hTd] at hm
              have := HSee2.out _ hm
              simpa using this)
            have HB5 := hid (below2 HB3.out hb5)
            have HA5 := hid (HA3.out.kept hb5)
            clear y0 y1 y2 y3 y4 y5 y6 y7 y8 y9 y10 y11 hb5 hTT hTd
            obtain ⟨z0, z1, z2, z3, z4, z5, z6, z7, z8, z9, z10, z11⟩ := adr_twelve HX6.out HA5.out
            go_wp2_with fail
            go_loop [7] (fun iv => ∃ j : Nat, j ≤ TT.size ∧ iv = .int .i64 j) (fun iv => TT.size - (intOf iv).toNat)
            case atStart => exact ⟨0, Nat.zero_le _, rfl⟩
            case round =>
              obtain ⟨j, hj, rfl⟩ := hrel
              by_cases hlj : j < TT.size
              · have hlj' : (j : Int) < (TT.size : Int) := by omega
                obtain ⟨g1, g2⟩ := HTT.out j hlj
                unfold seeB at g1
                rw [Bool.and_eq_true, decide_eq_true_iff, decide_eq_true_iff] at g1
                have h32 : decide ((TT[j].toNat : Int) < 32) = false := by rw [decide_eq_false_iff_not]; omega
                have h126 : decide ((126 : Int) < (TT[j].toNat : Int)) = false := by rw [decide_eq_false_iff_not]; omega
                have g3 := g2 (by first | rfl | trivial)
                unfold seeC at g3
                rw [Bool.and_eq_true, decide_eq_true_iff, decide_eq_true_iff] at g3
                have he : ((TT[j].toNat : Int) == 32) = false := by rw [beq_eq_false_iff_ne]; omega
                clear g1 g2 g3
                go_wp2_with fail
                go_round
                case rel => exact ⟨j + 1, by omega, by go_num⟩
                case measure => simp [intOf]; omega
              · have hlj' : decide ((j : Int) < (TT.size : Int)) = false := by rw [decide_eq_false_iff_not]; omega
                obtain ⟨q8, q9⟩ := HQ8.out
                have HGf := hid (HG.out.kept (below2 HB2.out HB5.out))
                clear HX6 HA5 HA3
                cases u10 with
                | true =>
                  cases u11 with
                  | true =>
                    clear q8 q9
                    go_wp2_with fail
                    refine (HKn.out _ HGf.out).mono ?_
                    rintro e w7 ⟨rfl, hb7⟩
                    go_wp2
                    go_ret
                    exact ⟨rfl, below2 (below2 HB2.out HB5.out) hb7⟩
                  | false =>
                    have e9 := q9 rfl
                    clear q8 q9
                    go_wp2_with fail
                    refine (HKn.out _ HGf.out).mono ?_
                    rintro e w7 ⟨rfl, hb7⟩
                    go_wp2
                    go_ret
                    exact ⟨rfl, below2 (below2 HB2.out HB5.out) hb7⟩
                | false =>
                  have e8 := q8 rfl
                  cases u11 with
                  | true =>
                    clear q8 q9
                    go_wp2_with fail
                    refine (HKn.out _ HGf.out).mono ?_
                    rintro e w7 ⟨rfl, hb7⟩
                    go_wp2
                    go_ret
                    exact ⟨rfl, below2 (below2 HB2.out HB5.out) hb7⟩
                  | false =>
                    have e9 := q9 rfl
                    clear q8 q9
                    go_wp2_with fail
                    refine (HKn.out _ HGf.out).mono ?_
                    rintro e w7 ⟨rfl, hb7⟩
                    go_wp2
                    go_ret
                    exact ⟨rfl, below2 (below2 HB2.out HB5.out) hb7⟩

end Go.Proofs.YtdnginibhpnefaaGreatDoor
