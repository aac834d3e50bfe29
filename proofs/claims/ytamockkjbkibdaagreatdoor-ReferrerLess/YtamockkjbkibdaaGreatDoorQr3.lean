/-
  Walks and plain facts that this claim leans on, put together out of 1 texts: Exc.
-/
import Derived.Test.YtamockkjbkibdaaGreatDoorProg
import Derived.Test.YtamockkjbkibdaaGreatDoorQa1
import Derived.Test.YtamockkjbkibdaaGreatDoorQa2
import Derived.Test.YtamockkjbkibdaaGreatDoorQa3
import Derived.Test.YtamockkjbkibdaaGreatDoorQa4
import Derived.Test.YtamockkjbkibdaaGreatDoorQa5
import Derived.Test.YtamockkjbkibdaaGreatDoorQa6
import Derived.Test.YtamockkjbkibdaaGreatDoorQa7
import Derived.Test.YtamockkjbkibdaaGreatDoorQa8
import Derived.Test.YtamockkjbkibdaaGreatDoorQa9
import Derived.Test.YtamockkjbkibdaaGreatDoorQa10
import Derived.Test.YtamockkjbkibdaaGreatDoorQa11
import Derived.Test.YtamockkjbkibdaaGreatDoorQa12
import Derived.Test.YtamockkjbkibdaaGreatDoorQa13
import Derived.Test.YtamockkjbkibdaaGreatDoorQa14
import Derived.Test.YtamockkjbkibdaaGreatDoorQa15
import Derived.Test.YtamockkjbkibdaaGreatDoorQa16
import Derived.Test.YtamockkjbkibdaaGreatDoorQa17
import Derived.Test.YtamockkjbkibdaaGreatDoorQa18
import Derived.Test.YtamockkjbkibdaaGreatDoorQa19
import Derived.Test.YtamockkjbkibdaaGreatDoorQa20
import Derived.Test.YtamockkjbkibdaaGreatDoorQa21
import Derived.Test.YtamockkjbkibdaaGreatDoorQa22
import Derived.Test.YtamockkjbkibdaaGreatDoorQa23
import Derived.Test.YtamockkjbkibdaaGreatDoorQa24
import Derived.Test.YtamockkjbkibdaaGreatDoorQa25
import Derived.Test.YtamockkjbkibdaaGreatDoorQa26
import Derived.Test.YtamockkjbkibdaaGreatDoorQa27
import Derived.Test.YtamockkjbkibdaaGreatDoorQa28
import Derived.Test.YtamockkjbkibdaaGreatDoorQa29
import Derived.Test.YtamockkjbkibdaaGreatDoorQa30
import Derived.Test.YtamockkjbkibdaaGreatDoorQa31
import Derived.Test.YtamockkjbkibdaaGreatDoorQa32
import Derived.Test.YtamockkjbkibdaaGreatDoorQr1
import Derived.Test.YtamockkjbkibdaaGreatDoorQr2
import Derived.Deep.Cut
import Derived.Deep.QuietTactic
import Derived.BigQuiet
import Derived.BigRegion
import Derived.Deep.RegionHeld
import Derived.Deep.CutRange
import Derived.Lib.IndexMore
import Derived.Lib.Join
import Derived.Lib.LastIndexByte
import Derived.WalkKit
import Derived.Lib.Strings
import Derived.Lib.UnsafeStr
import Derived.Laws.IdiomStrings
import Derived.Laws.AppendOwn
import Derived.Laws.BitsAllLaws
import Derived.Lib.Bytealg
import Derived.Lib.BufferMore
import Derived.Lib.BufferRead
import Derived.Lib.RuneBytes
import Derived.Laws.RangeAny
import Derived.LoopN
import Derived.RegionTactic
import Derived.Deep.RegionWith
import Derived.OwnWalk
import Derived.Deep.RegionLaw
import Derived.Laws.OwnMore
import Derived.Deep.LoopGhost
import Derived.Shelf.Strings.Builder1
import Derived.Shelf.Strings.Builder2
import Derived.Shelf.Strings.OnBuilder
import Derived.Shelf.Strings.Trim
import Derived.Shelf.Small.Utf8
import Derived.Shelf.Small.Strs
import Derived.Shelf.Small.Wraps
import Derived.Shelf.Strings.BuilderF
import Derived.Shelf.Strings.BuilderK
import Derived.Shelf.Strings.BuilderRune
import Derived.Shelf.Utf8.AppendRune
import Derived.Shelf.Utf8.AppendRunePlain
import Derived.Shelf.Strings.Builder2Cap
import Derived.Shelf.Strconv.Itoa0
import Derived.Shelf.Strconv.Itoa1
import Derived.Shelf.LaysM
import Derived.Shelf.Strconv.Itoa2
import Derived.Shelf.Strconv.Itoa3
import Derived.Shelf.Strings.Search1
import Derived.Shelf.Strings.Search2
import Derived.Shelf.Strings.Search3
import Derived.Shelf.Strings.Cut
import Derived.Shelf.Strings.Count
import Derived.Shelf.Strings.Shaped
import Derived.Shelf.Strings.LastIndex
import Derived.Shelf.Strings.Prefix
import Derived.Shelf.Strings.Split
import Derived.Shelf.Strings.Replace
import Derived.Shelf.Strings.Runes
import Derived.Shelf.Strings.IndexAny
import Derived.Shelf.Strings.AsciiSet
import Derived.Shelf.Strings.IndexAnyAll
import Derived.Shelf.Unicode.DecodeSlow
import Derived.Ground.Names2Prog
import Derived.Shelf.Slices.Clone
import Derived.Ground.SlgnProg
import Derived.Shelf.SlicesE.Clone
import Derived.Laws.AppendOwnNone
import Derived.Scope
import Derived.ScopeJumps
import Derived.WalkMore
import Derived.Lib.IndexAny
import Derived.Lib.Replace
import Derived.Lib.TrimByte
import Derived.Lib.ItoaNum
import Derived.Lib.DecodeN
import Derived.Lib.OthersKept
import Derived.Laws.BytesString
import Derived.Deep.WholeRow
import Derived.Lib.AppendStr
import Derived.WalkSpells
import Derived.WalkLawsBesides
import Derived.Lib.AppendIntMem
import Derived.Lib.SmallJoins
import Derived.WalkSmall
import Derived.Laws.CopyOwn
import Derived.Laws.ResultCell
import Derived.Deep.MidRow
import Derived.Lib.FrozenHead2
import Derived.Lib.Builder
import Derived.Lib.SlTrimSet
import Derived.Below
import Derived.Shelf.Strings.SlTrimAscii
import Derived.Laws.Runes
set_option linter.unusedSimpArgs false
set_option linter.unusedVariables false

namespace Go.Proofs.YtamockkjbkibdaaGreatDoor
open Go.RowKit

theorem known_eight {P : ByteArray} (h : knownR P.data.toList = true) : P.data.toList = pNo ∨ P.data.toList = pDown ∨ P.data.toList = pSame ∨ P.data.toList = pOrig ∨ P.data.toList = pStrict ∨ P.data.toList = pCross ∨ P.data.toList = pSCross ∨ P.data.toList = pUns := by
 unfold knownR at h
 simpa only [Bool.or_eq_true, beq_iff_eq] using h

theorem name_yes {p : List UInt8} (h : knownR p = true) : nameR p = p := by unfold nameR; rw [if_pos h]

theorem name_no {p : List UInt8} (h : knownR p = false) : nameR p = pSCross := by unfold nameR; rw [h]; rfl

set_option maxHeartbeats 32000000 in
set_option maxRecDepth 100000 in
theorem ofR_any (P : ByteArray) (u : Adr) (pv : Value) (v : Adr) (qv : Value) (w : World) (hg : Gd w) (hp : PathAt w pv u.path) (hq : PathAt w qv v.path) (hu : StOk u) (hv : StOk v) :
  Calls Tryz.prog 42 #[.string P, adrVal u pv, adrVal v qv] w fun e w' => e = .returned (.string ⟨(ofR P.data.toList u v).toArray⟩) ∧ Below w.heap.size w w' := by
 have HKn := hid (fun w => known13_any P w)
 obtain ⟨kq, hkq⟩ : ∃ q, knownR P.data.toList = q := ⟨_, rfl⟩
 rw [hkq] at HKn
 obtain ⟨sm, hsm⟩ : ∃ q, sameO (orgV u) (orgV v) = q := ⟨_, rfl⟩
 obtain ⟨tr, htr⟩ : ∃ q, trustV v = q := ⟨_, rfl⟩
 have HOu := hid (fun (X : World) (hX : Gd X) (h : PathAt X pv u.path) => of_any u pv X hX h hu.2.1 hu.2.2.1)
 have HOv := hid (fun (X : World) (hX : Gd X) (h : PathAt X qv v.path) => of_any v qv X hX h hv.2.1 hv.2.2.1)
 have HSa := hid (fun X => same4_any (orgV u) (orgV v) X)
 have HTr := hid (fun (X : World) (hX : Gd X) (h : PathAt X qv v.path) => trusted_any v qv X hX h hv.2)
 have HSt := hid (fun (b : Bool) (X : World) (hX : Gd X) (h : PathAt X pv u.path) => strip13_any u pv b X hX h hu)
 rw [hsm] at HSa
 rw [htr] at HTr
 have HV := hid (show ofR P.data.toList u v = tellR (nameR P.data.toList) sm ((u.scheme == sHttps) && !tr) u by unfold ofR downR; rw [hsm, htr])
 generalize ofR P.data.toList u v = RR at HV ⊢
 obtain ⟨SF, hSF⟩ : ∃ X : ByteArray, X = ⟨(stripV u false).toArray⟩ := ⟨_, rfl⟩
 obtain ⟨ST, hST⟩ : ∃ X : ByteArray, X = ⟨(stripV u true).toArray⟩ := ⟨_, rfl⟩
 have HSf := hid (fun (X : World) (hX : Gd X) (h : PathAt X pv u.path) => HSt.out false X hX h)
 have HSt2 := hid (fun (X : World) (hX : Gd X) (h : PathAt X pv u.path) => HSt.out true X hX h)
 rw [← hSF] at HSf
 rw [← hST] at HSt2
 have HSF := hid hSF
 have HST := hid hST
 obtain ⟨da, dn, dc, rfl⟩ := path_sl hp
 obtain ⟨va, vn, vc, rfl⟩ := path_sl hq
 obtain ⟨d0, d1, d2, d3, d4, d5, d6, d8, d9, d10, d11, hxd, hx0, hx3, -, -⟩ := adr_named u da dn dc
 obtain ⟨v0, v1, v2, v3, v4, v5, v6, v8, v9, v10, v11, hxv⟩ := adr_cells v va vn vc
 have hvd : adrVal u (.slice da dn dc) = .agg #[.string d0, .string d1, .string d2, .string d3, .bool d4, .int .i64 d5, .bool d6, .slice da dn dc, .string d8, .string d9, .bool d10, .bool d11] := by unfold adrVal; rw [hxd]
 have hvv : adrVal v (.slice va vn vc) = .agg #[.string v0, .string v1, .string v2, .string v3, .bool v4, .int .i64 v5, .bool v6, .slice va vn vc, .string v8, .string v9, .bool v10, .bool v11] := by unfold adrVal; rw [hxv]
 obtain ⟨qh, eqh⟩ : ∃ q, (d0.toList == [104, 116, 116, 112, 115]) = q := ⟨_, rfl⟩
 have HQh := hid (show (u.scheme == sHttps) = qh by rw [← eqh, Lib.toList_data, hx0]; rfl)
 rw [HQh.out] at HV
 rw [hvd, hvv]
 rw [hvd] at HOu HSf HSt2
 rw [hvv] at HOv HTr
 generalize horu : orgV u = OU at HOu HSa
 generalize horv : orgV v = OV at HOv HSa
 obtain ⟨W1, hW1⟩ : ∃ X, (w.alloc (.cells #[.string d0, .string d1, .string d2, .string d3, .bool d4, .int .i64 d5, .bool d6, .slice da dn dc, .string d8, .string d9, .bool d10, .bool d11] 24)) = X := ⟨_, rfl⟩
 have hbW1 : Below w.heap.size w W1 := by rw [← hW1]; exact (Below.refl _ w).alloc (Nat.le_refl _) _
 have hsW1 : W1.heap.size = w.heap.size + 1 := by rw [← hW1]; simp
 have hAW1 : AdrIn W1 w.heap.size u (.slice da dn dc) := by
  unfold AdrIn
  rw [hxd, ← hW1]
  exact heap_alloc_new w _
 obtain ⟨W2, hW2⟩ : ∃ X, (W1.alloc (.cells #[.string v0, .string v1, .string v2, .string v3, .bool v4, .int .i64 v5, .bool v6, .slice va vn vc, .string v8, .string v9, .bool v10, .bool v11] 24)) = X := ⟨_, rfl⟩
 have hbW2 : Below W1.heap.size W1 W2 := by rw [← hW2]; exact (Below.refl _ W1).alloc (Nat.le_refl _) _
 have hsW2 : W2.heap.size = W1.heap.size + 1 := by rw [← hW2]; simp
 have hAW2 : AdrIn W2 W1.heap.size v (.slice va vn vc) := by
  unfold AdrIn
  rw [hxv, ← hW2]
  exact heap_alloc_new W1 _
 rw [hsW1] at hAW2
 have hA1 := hAW1.kept hbW2
 have HXd := hid hxd
 have HXv := hid hxv
 have hb12 := below2 hbW1 hbW2
 have HB2 := hid hb12
 have HG2 := hid (hg.kept hb12)
 have HP2 := hid (hp.kept hb12)
 have HPv2 := hid (hq.kept hb12)
 have HA1 := hid hA1
 have HA2 := hid hAW2
 have HRu := hid (show ∀ Z, Below W2.heap.size W2 Z → Z.rangeAt w.heap.size 0 [.string d0, .string d1, .string d2, .string d3, .bool d4, .int .i64 d5, .bool d6, .slice da dn dc, .string d8, .string d9, .bool d10, .bool d11] from fun Z hZ => by
  have := range_row (show Z.heap[w.heap.size]? = some (.cells (adrCells u (.slice da dn dc)).toArray 24 (0, 0)) from hA1.kept hZ)
  rw [hxd] at this
  exact this)
 have HRv := hid (show ∀ Z, Below W2.heap.size W2 Z → Z.rangeAt (w.heap.size + 1) 0 [.string v0, .string v1, .string v2, .string v3, .bool v4, .int .i64 v5, .bool v6, .slice va vn vc, .string v8, .string v9, .bool v10, .bool v11] from fun Z hZ => by
  have := range_row (show Z.heap[w.heap.size + 1]? = some (.cells (adrCells v (.slice va vn vc)).toArray 24 (0, 0)) from hAW2.kept hZ)
  rw [hxv] at this
  exact this)
 have HOu3 := hid (fun (Z : World) (hZ : Below W2.heap.size W2 Z) => HOu.out Z (HG2.out.kept hZ) (HP2.out.kept hZ))
 have HOv3 := hid (fun (Z : World) (hZ : Below W2.heap.size W2 Z) => HOv.out Z (HG2.out.kept hZ) (HPv2.out.kept hZ))
 have HSa3 := hid (fun (Z : World) (hZ : Below W2.heap.size W2 Z) => HSa.out Z)
 have HQ0 := hid ((Below.refl W2.heap.size W2).drew)
 have HKq := hid hkq
 unfold OfPost at HOu3 HOv3
 clear hkq hsm htr hSF hST hx0 hx3 hxd hxv hvd hvv hg hp hq hu hv hbW1 hbW2 hAW1 hAW2 hA1 hb12 horu horv hsW2 HSt HOu HOv HSa
 cases kq with
 | true =>
  have HNm := hid (name_yes HKq.out)
  rw [HNm.out] at HV
  cases qh with
  | true =>
   go_enter Tryz.func42, Tryz.ntmps42
   go_wp2_with fail
   refine (HKn.out _).mono ?_
   rintro e w0 ⟨rfl, hw0⟩
   rw [← hw0]
   clear hw0
   go_wp2_with fail
   refine wp_region_held_drew (S := (fun wx => Below W2.heap.size W2 wx)) (by kernel_rfl) HQ0.out (fun hHeld => ?_)
   refine wpAnyH_take (i := 0) (oi := ⟨some 12, _, _, _, _, _⟩) rfl (by kernel_rfl) (by kernel_rfl) (by kernel_rfl) (fun _ _ _ h => h) (yieldsIf_load_mid (by kernel_rfl) 24 (.tmp 4) rfl (w.heap.size) 0 rfl [.string d0, .string d1, .string d2, .string d3, .bool d4, .int .i64 d5, .bool d6, .slice da dn dc, .string d8, .string d9, .bool d10, .bool d11] _ HRu.out Tryz.underlying24 rfl sizeU) (by assumption) ?_
   (try simp only [Act.put, List.setIfInBounds_toArray, List.set_cons_zero, List.set_cons_succ])
   refine wpAnyH_take (i := 2) (oi := ⟨some 14, _, _, _, _, _⟩) rfl (by kernel_rfl) (by kernel_rfl) (by kernel_rfl) (fun _ _ _ h => h) (yieldsIf_load_mid (by kernel_rfl) 24 (.tmp 5) rfl (w.heap.size + 1) 0 rfl [.string v0, .string v1, .string v2, .string v3, .bool v4, .int .i64 v5, .bool v6, .slice va vn vc, .string v8, .string v9, .bool v10, .bool v11] _ HRv.out Tryz.underlying24 rfl sizeU) (by assumption) ?_
   (try simp only [Act.put, List.setIfInBounds_toArray, List.set_cons_zero, List.set_cons_succ])
   refine wpAnyH_ready (rs := [1]) (by kernel_rfl) (by simp) ?_
   refine AllReadyH.cons rfl (fun K9 hK => ?_) AllReadyH.nil
   rw [if_pos (by kernel_rfl)]
   go_simp
   go_wp2_with (go_at_call 33; refine (HOu3.out _ HQ0.out).mono ?_; rintro e w5 ⟨rfl, hba⟩)
   have HQ5 := hid (below2 HQ0.out hba)
   clear hba
   refine hK.out _ _ HQ5.out (fun hHeld2 => ?_)
   clear hK K9 hHeld
   rename _ => hHeld
   refine wpAnyH_ready (rs := [3]) (by kernel_rfl) (by simp) ?_
   refine AllReadyH.cons rfl (fun K9 hK => ?_) AllReadyH.nil
   rw [if_pos (by kernel_rfl)]
   go_simp
   go_wp2_with (go_at_call 33; refine (HOv3.out _ HQ5.out).mono ?_; rintro e w6 ⟨rfl, hba⟩)
   have HQ6 := hid (below2 HQ5.out hba)
   clear hba
   refine hK.out _ _ HQ6.out (fun hHeld2 => ?_)
   clear hK K9 hHeld
   rename _ => hHeld
   refine wpAnyH_ready (rs := [4]) (by kernel_rfl) (by simp) ?_
   refine AllReadyH.cons rfl (fun K9 hK => ?_) AllReadyH.nil
   rw [if_pos (by kernel_rfl)]
   go_simp
   go_wp2_with (go_at_call 24; refine (HSa3.out _ HQ6.out).mono ?_; rintro e w7 ⟨rfl, hba⟩)
   have HQ7 := hid (below2 HQ6.out hba)
   clear hba
   refine hK.out _ _ HQ7.out (fun hHeld2 => ?_)
   clear hK K9 hHeld
   rename _ => hHeld
   refine' wpAnyH_take (i := 5) (oi := ⟨some 7, _, _, _, _, _⟩) (v := _) rfl (by kernel_rfl) (by kernel_rfl) (by kernel_rfl) (fun _ _ _ h => h) (Or.inl ⟨by kernel_rfl, ?hy1⟩) (by assumption) ?rest1
   case hy1 => (intro wx hSw; (try dsimp only at hSw); go_simp; first | done | with_reducible rfl)
   (try simp only [Act.put, List.setIfInBounds_toArray, List.set_cons_zero, List.set_cons_succ])
   refine wpAnyH_done (by kernel_rfl) ?_ _
   have HB7 := hid (below2 HB2.out HQ7.out)
   have HG7 := hid (HG2.out.kept HQ7.out)
   have HP7 := hid (HP2.out.kept HQ7.out)
   have HPv7 := hid (HPv2.out.kept HQ7.out)
   have HA7 := hid (HA1.out.kept HQ7.out)
   have HAv7 := hid (HA2.out.kept HQ7.out)
   clear HQ5 HQ6
   obtain ⟨z0, z1, z2, z3, z4, z5, z6, z7, z8, z9, z10, z11⟩ := adr_twelve HXv.out HAv7.out
   have y0 := HA7.out.cell 0 _ (by rw [HXd.out]; rfl)
   go_wp2_with fail
   refine (HTr.out _ HG7.out HPv7.out).mono ?_
   rintro e w8 ⟨rfl, hb8⟩
   have HB9 := hid (below2 HB7.out hb8)
   have HG9 := hid (HG7.out.kept hb8)
   have HP9 := hid (HP7.out.kept hb8)
   have HA9 := hid (HA7.out.kept hb8)
   clear hb8 z0 z1 z2 z3 z4 z5 z6 z7 z8 z9 z10 z11 y0
   obtain ⟨y0, y1, y2, y3, y4, y5, y6, y7, y8, y9, y10, y11⟩ := adr_twelve HXd.out HA9.out
   rcases known_eight HKq.out with hN | hN | hN | hN | hN | hN | hN | hN
   ·as_aux_lemma =>
    have HTl := hid hN
    have c0 : (P.toList == [110, 111, 45, 114, 101, 102, 101, 114, 114, 101, 114]) = true := (by rw [Lib.toList_data, hN]; decide)
    have c1 : (P.toList == [110, 111, 45, 114, 101, 102, 101, 114, 114, 101, 114, 45, 119, 104, 101, 110, 45, 100, 111, 119, 110, 103, 114, 97, 100, 101]) = false := (by rw [Lib.toList_data, hN]; decide)
    have c2 : (P.toList == [115, 97, 109, 101, 45, 111, 114, 105, 103, 105, 110]) = false := (by rw [Lib.toList_data, hN]; decide)
    have c3 : (P.toList == [111, 114, 105, 103, 105, 110]) = false := (by rw [Lib.toList_data, hN]; decide)
    have c4 : (P.toList == [115, 116, 114, 105, 99, 116, 45, 111, 114, 105, 103, 105, 110]) = false := (by rw [Lib.toList_data, hN]; decide)
    have c5 : (P.toList == [111, 114, 105, 103, 105, 110, 45, 119, 104, 101, 110, 45, 99, 114, 111, 115, 115, 45, 111, 114, 105, 103, 105, 110]) = false := (by rw [Lib.toList_data, hN]; decide)
    have c6 : (P.toList == [115, 116, 114, 105, 99, 116, 45, 111, 114, 105, 103, 105, 110, 45, 119, 104, 101, 110, 45, 99, 114, 111, 115, 115, 45, 111, 114, 105, 103, 105, 110]) = false := (by rw [Lib.toList_data, hN]; decide)
    have c7 : (P.toList == [117, 110, 115, 97, 102, 101, 45, 117, 114, 108]) = false := (by rw [Lib.toList_data, hN]; decide)
    clear hN
    rw [HTl.out] at HV
    cases sm with
    | true =>
     cases tr with
     | true =>
      go_wp2
      go_ret
      exact ⟨ret_str' (by rw [HV.out]; rfl), HB9.out⟩
     | false =>
      go_wp2
      go_ret
      exact ⟨ret_str' (by rw [HV.out]; rfl), HB9.out⟩
    | false =>
     cases tr with
     | true =>
      go_wp2
      go_ret
      exact ⟨ret_str' (by rw [HV.out]; rfl), HB9.out⟩
     | false =>
      go_wp2
      go_ret
      exact ⟨ret_str' (by rw [HV.out]; rfl), HB9.out⟩
   ·as_aux_lemma =>
    have HTl := hid hN
    have c0 : (P.toList == [110, 111, 45, 114, 101, 102, 101, 114, 114, 101, 114]) = false := (by rw [Lib.toList_data, hN]; decide)
    have c1 : (P.toList == [110, 111, 45, 114, 101, 102, 101, 114, 114, 101, 114, 45, 119, 104, 101, 110, 45, 100, 111, 119, 110, 103, 114, 97, 100, 101]) = true := (by rw [Lib.toList_data, hN]; decide)
    have c2 : (P.toList == [115, 97, 109, 101, 45, 111, 114, 105, 103, 105, 110]) = false := (by rw [Lib.toList_data, hN]; decide)
    have c3 : (P.toList == [111, 114, 105, 103, 105, 110]) = false := (by rw [Lib.toList_data, hN]; decide)
    have c4 : (P.toList == [115, 116, 114, 105, 99, 116, 45, 111, 114, 105, 103, 105, 110]) = false := (by rw [Lib.toList_data, hN]; decide)
    have c5 : (P.toList == [111, 114, 105, 103, 105, 110, 45, 119, 104, 101, 110, 45, 99, 114, 111, 115, 115, 45, 111, 114, 105, 103, 105, 110]) = false := (by rw [Lib.toList_data, hN]; decide)
    have c6 : (P.toList == [115, 116, 114, 105, 99, 116, 45, 111, 114, 105, 103, 105, 110, 45, 119, 104, 101, 110, 45, 99, 114, 111, 115, 115, 45, 111, 114, 105, 103, 105, 110]) = false := (by rw [Lib.toList_data, hN]; decide)
    have c7 : (P.toList == [117, 110, 115, 97, 102, 101, 45, 117, 114, 108]) = false := (by rw [Lib.toList_data, hN]; decide)
    clear hN
    rw [HTl.out] at HV
    cases sm with
    | true =>
     cases tr with
     | true =>
      go_wp2_with fail
      refine (HSf.out _ HG9.out HP9.out).mono ?_
      rintro e w9 ⟨rfl, hb9⟩
      go_wp2
      go_ret
      exact ⟨ret_str' (by rw [HSF.out, HV.out]; rfl), below2 HB9.out hb9⟩
     | false =>
      go_wp2
      go_ret
      exact ⟨ret_str' (by rw [HV.out]; rfl), HB9.out⟩
    | false =>
     cases tr with
     | true =>
      go_wp2_with fail
      refine (HSf.out _ HG9.out HP9.out).mono ?_
      rintro e w9 ⟨rfl, hb9⟩
      go_wp2
      go_ret
      exact ⟨ret_str' (by rw [HSF.out, HV.out]; rfl), below2 HB9.out hb9⟩
     | false =>
      go_wp2
      go_ret
      exact ⟨ret_str' (by rw [HV.out]; rfl), HB9.out⟩
   ·as_aux_lemma =>
    have HTl := hid hN
    have c0 : (P.toList == [110, 111, 45, 114, 101, 102, 101, 114, 114, 101, 114]) = false := (by rw [Lib.toList_data, hN]; decide)
    have c1 : (P.toList == [110, 111, 45, 114, 101, 102, 101, 114, 114, 101, 114, 45, 119, 104, 101, 110, 45, 100, 111, 119, 110, 103, 114, 97, 100, 101]) = false := (by rw [Lib.toList_data, hN]; decide)
    have c2 : (P.toList == [115, 97, 109, 101, 45, 111, 114, 105, 103, 105, 110]) = true := (by rw [Lib.toList_data, hN]; decide)
    have c3 : (P.toList == [111, 114, 105, 103, 105, 110]) = false := (by rw [Lib.toList_data, hN]; decide)
    have c4 : (P.toList == [115, 116, 114, 105, 99, 116, 45, 111, 114, 105, 103, 105, 110]) = false := (by rw [Lib.toList_data, hN]; decide)
    have c5 : (P.toList == [111, 114, 105, 103, 105, 110, 45, 119, 104, 101, 110, 45, 99, 114, 111, 115, 115, 45, 111, 114, 105, 103, 105, 110]) = false := (by rw [Lib.toList_data, hN]; decide)
    have c6 : (P.toList == [115, 116, 114, 105, 99, 116, 45, 111, 114, 105, 103, 105, 110, 45, 119, 104, 101, 110, 45, 99, 114, 111, 115, 115, 45, 111, 114, 105, 103, 105, 110]) = false := (by rw [Lib.toList_data, hN]; decide)
    have c7 : (P.toList == [117, 110, 115, 97, 102, 101, 45, 117, 114, 108]) = false := (by rw [Lib.toList_data, hN]; decide)
    clear hN
    rw [HTl.out] at HV
    cases sm with
    | true =>
     cases tr with
     | true =>
      go_wp2_with fail
      refine (HSf.out _ HG9.out HP9.out).mono ?_
      rintro e w9 ⟨rfl, hb9⟩
      go_wp2
      go_ret
      exact ⟨ret_str' (by rw [HSF.out, HV.out]; rfl), below2 HB9.out hb9⟩
     | false =>
      go_wp2_with fail
      refine (HSf.out _ HG9.out HP9.out).mono ?_
      rintro e w9 ⟨rfl, hb9⟩
      go_wp2
      go_ret
      exact ⟨ret_str' (by rw [HSF.out, HV.out]; rfl), below2 HB9.out hb9⟩
    | false =>
     cases tr with
     | true =>
      go_wp2
      go_ret
      exact ⟨ret_str' (by rw [HV.out]; rfl), HB9.out⟩
     | false =>
      go_wp2
      go_ret
      exact ⟨ret_str' (by rw [HV.out]; rfl), HB9.out⟩
   ·as_aux_lemma =>
    have HTl := hid hN
    have c0 : (P.toList == [110, 111, 45, 114, 101, 102, 101, 114, 114, 101, 114]) = false := (by rw [Lib.toList_data, hN]; decide)
    have c1 : (P.toList == [110, 111, 45, 114, 101, 102, 101, 114, 114, 101, 114, 45, 119, 104, 101, 110, 45, 100, 111, 119, 110, 103, 114, 97, 100, 101]) = false := (by rw [Lib.toList_data, hN]; decide)
    have c2 : (P.toList == [115, 97, 109, 101, 45, 111, 114, 105, 103, 105, 110]) = false := (by rw [Lib.toList_data, hN]; decide)
    have c3 : (P.toList == [111, 114, 105, 103, 105, 110]) = true := (by rw [Lib.toList_data, hN]; decide)
    have c4 : (P.toList == [115, 116, 114, 105, 99, 116, 45, 111, 114, 105, 103, 105, 110]) = false := (by rw [Lib.toList_data, hN]; decide)
    have c5 : (P.toList == [111, 114, 105, 103, 105, 110, 45, 119, 104, 101, 110, 45, 99, 114, 111, 115, 115, 45, 111, 114, 105, 103, 105, 110]) = false := (by rw [Lib.toList_data, hN]; decide)
    have c6 : (P.toList == [115, 116, 114, 105, 99, 116, 45, 111, 114, 105, 103, 105, 110, 45, 119, 104, 101, 110, 45, 99, 114, 111, 115, 115, 45, 111, 114, 105, 103, 105, 110]) = false := (by rw [Lib.toList_data, hN]; decide)
    have c7 : (P.toList == [117, 110, 115, 97, 102, 101, 45, 117, 114, 108]) = false := (by rw [Lib.toList_data, hN]; decide)
    clear hN
    rw [HTl.out] at HV
    cases sm with
    | true =>
     cases tr with
     | true =>
      go_wp2_with fail
      refine (HSt2.out _ HG9.out HP9.out).mono ?_
      rintro e w9 ⟨rfl, hb9⟩
      go_wp2
      go_ret
      exact ⟨ret_str' (by rw [HST.out, HV.out]; rfl), below2 HB9.out hb9⟩
     | false =>
      go_wp2_with fail
      refine (HSt2.out _ HG9.out HP9.out).mono ?_
      rintro e w9 ⟨rfl, hb9⟩
      go_wp2
      go_ret
      exact ⟨ret_str' (by rw [HST.out, HV.out]; rfl), below2 HB9.out hb9⟩
    | false =>
     cases tr with
     | true =>
      go_wp2_with fail
      refine (HSt2.out _ HG9.out HP9.out).mono ?_
      rintro e w9 ⟨rfl, hb9⟩
      go_wp2
      go_ret
      exact ⟨ret_str' (by rw [HST.out, HV.out]; rfl), below2 HB9.out hb9⟩
     | false =>
      go_wp2_with fail
      refine (HSt2.out _ HG9.out HP9.out).mono ?_
      rintro e w9 ⟨rfl, hb9⟩
      go_wp2
      go_ret
      exact ⟨ret_str' (by rw [HST.out, HV.out]; rfl), below2 HB9.out hb9⟩
   ·as_aux_lemma =>
    have HTl := hid hN
    have c0 : (P.toList == [110, 111, 45, 114, 101, 102, 101, 114, 114, 101, 114]) = false := (by rw [Lib.toList_data, hN]; decide)
    have c1 : (P.toList == [110, 111, 45, 114, 101, 102, 101, 114, 114, 101, 114, 45, 119, 104, 101, 110, 45, 100, 111, 119, 110, 103, 114, 97, 100, 101]) = false := (by rw [Lib.toList_data, hN]; decide)
    have c2 : (P.toList == [115, 97, 109, 101, 45, 111, 114, 105, 103, 105, 110]) = false := (by rw [Lib.toList_data, hN]; decide)
    have c3 : (P.toList == [111, 114, 105, 103, 105, 110]) = false := (by rw [Lib.toList_data, hN]; decide)
    have c4 : (P.toList == [115, 116, 114, 105, 99, 116, 45, 111, 114, 105, 103, 105, 110]) = true := (by rw [Lib.toList_data, hN]; decide)
    have c5 : (P.toList == [111, 114, 105, 103, 105, 110, 45, 119, 104, 101, 110, 45, 99, 114, 111, 115, 115, 45, 111, 114, 105, 103, 105, 110]) = false := (by rw [Lib.toList_data, hN]; decide)
    have c6 : (P.toList == [115, 116, 114, 105, 99, 116, 45, 111, 114, 105, 103, 105, 110, 45, 119, 104, 101, 110, 45, 99, 114, 111, 115, 115, 45, 111, 114, 105, 103, 105, 110]) = false := (by rw [Lib.toList_data, hN]; decide)
    have c7 : (P.toList == [117, 110, 115, 97, 102, 101, 45, 117, 114, 108]) = false := (by rw [Lib.toList_data, hN]; decide)
    clear hN
    rw [HTl.out] at HV
    cases sm with
    | true =>
     cases tr with
     | true =>
      go_wp2_with fail
      refine (HSt2.out _ HG9.out HP9.out).mono ?_
      rintro e w9 ⟨rfl, hb9⟩
      go_wp2
      go_ret
      exact ⟨ret_str' (by rw [HST.out, HV.out]; rfl), below2 HB9.out hb9⟩
     | false =>
      go_wp2
      go_ret
      exact ⟨ret_str' (by rw [HV.out]; rfl), HB9.out⟩
    | false =>
     cases tr with
     | true =>
      go_wp2_with fail
      refine (HSt2.out _ HG9.out HP9.out).mono ?_
      rintro e w9 ⟨rfl, hb9⟩
      go_wp2
      go_ret
      exact ⟨ret_str' (by rw [HST.out, HV.out]; rfl), below2 HB9.out hb9⟩
     | false =>
      go_wp2
      go_ret
      exact ⟨ret_str' (by rw [HV.out]; rfl), HB9.out⟩
   ·as_aux_lemma =>
    have HTl := hid hN
    have c0 : (P.toList == [110, 111, 45, 114, 101, 102, 101, 114, 114, 101, 114]) = false := (by rw [Lib.toList_data, hN]; decide)
    have c1 : (P.toList == [110, 111, 45, 114, 101, 102, 101, 114, 114, 101, 114, 45, 119, 104, 101, 110, 45, 100, 111, 119, 110, 103, 114, 97, 100, 101]) = false := (by rw [Lib.toList_data, hN]; decide)
    have c2 : (P.toList == [115, 97, 109, 101, 45, 111, 114, 105, 103, 105, 110]) = false := (by rw [Lib.toList_data, hN]; decide)
    have c3 : (P.toList == [111, 114, 105, 103, 105, 110]) = false := (by rw [Lib.toList_data, hN]; decide)
    have c4 : (P.toList == [115, 116, 114, 105, 99, 116, 45, 111, 114, 105, 103, 105, 110]) = false := (by rw [Lib.toList_data, hN]; decide)
    have c5 : (P.toList == [111, 114, 105, 103, 105, 110, 45, 119, 104, 101, 110, 45, 99, 114, 111, 115, 115, 45, 111, 114, 105, 103, 105, 110]) = true := (by rw [Lib.toList_data, hN]; decide)
    have c6 : (P.toList == [115, 116, 114, 105, 99, 116, 45, 111, 114, 105, 103, 105, 110, 45, 119, 104, 101, 110, 45, 99, 114, 111, 115, 115, 45, 111, 114, 105, 103, 105, 110]) = false := (by rw [Lib.toList_data, hN]; decide)
    have c7 : (P.toList == [117, 110, 115, 97, 102, 101, 45, 117, 114, 108]) = false := (by rw [Lib.toList_data, hN]; decide)
    clear hN
    rw [HTl.out] at HV
    cases sm with
    | true =>
     cases tr with
     | true =>
      go_wp2_with fail
      refine (HSf.out _ HG9.out HP9.out).mono ?_
      rintro e w9 ⟨rfl, hb9⟩
      go_wp2
      go_ret
      exact ⟨ret_str' (by rw [HSF.out, HV.out]; rfl), below2 HB9.out hb9⟩
     | false =>
      go_wp2_with fail
      refine (HSf.out _ HG9.out HP9.out).mono ?_
      rintro e w9 ⟨rfl, hb9⟩
      go_wp2
      go_ret
      exact ⟨ret_str' (by rw [HSF.out, HV.out]; rfl), below2 HB9.out hb9⟩
    | false =>
     cases tr with
     | true =>
      go_wp2_with fail
      refine (HSt2.out _ HG9.out HP9.out).mono ?_
      rintro e w9 ⟨rfl, hb9⟩
      go_wp2
      go_ret
      exact ⟨ret_str' (by rw [HST.out, HV.out]; rfl), below2 HB9.out hb9⟩
     | false =>
      go_wp2_with fail
      refine (HSt2.out _ HG9.out HP9.out).mono ?_
      rintro e w9 ⟨rfl, hb9⟩
      go_wp2
      go_ret
      exact ⟨ret_str' (by rw [HST.out, HV.out]; rfl), below2 HB9.out hb9⟩
   ·as_aux_lemma =>
    have HTl := hid hN
    have c0 : (P.toList == [110, 111, 45, 114, 101, 102, 101, 114, 114, 101, 114]) = false := (by rw [Lib.toList_data, hN]; decide)
    have c1 : (P.toList == [110, 111, 45, 114, 101, 102, 101, 114, 114, 101, 114, 45, 119, 104, 101, 110, 45, 100, 111, 119, 110, 103, 114, 97, 100, 101]) = false := (by rw [Lib.toList_data, hN]; decide)
    have c2 : (P.toList == [115, 97, 109, 101, 45, 111, 114, 105, 103, 105, 110]) = false := (by rw [Lib.toList_data, hN]; decide)
    have c3 : (P.toList == [111, 114, 105, 103, 105, 110]) = false := (by rw [Lib.toList_data, hN]; decide)
    have c4 : (P.toList == [115, 116, 114, 105, 99, 116, 45, 111, 114, 105, 103, 105, 110]) = false := (by rw [Lib.toList_data, hN]; decide)
    have c5 : (P.toList == [111, 114, 105, 103, 105, 110, 45, 119, 104, 101, 110, 45, 99, 114, 111, 115, 115, 45, 111, 114, 105, 103, 105, 110]) = false := (by rw [Lib.toList_data, hN]; decide)
    have c6 : (P.toList == [115, 116, 114, 105, 99, 116, 45, 111, 114, 105, 103, 105, 110, 45, 119, 104, 101, 110, 45, 99, 114, 111, 115, 115, 45, 111, 114, 105, 103, 105, 110]) = true := (by rw [Lib.toList_data, hN]; decide)
    have c7 : (P.toList == [117, 110, 115, 97, 102, 101, 45, 117, 114, 108]) = false := (by rw [Lib.toList_data, hN]; decide)
    clear hN
    rw [HTl.out] at HV
    cases sm with
    | true =>
     cases tr with
     | true =>
      go_wp2_with fail
      refine (HSf.out _ HG9.out HP9.out).mono ?_
      rintro e w9 ⟨rfl, hb9⟩
      go_wp2
      go_ret
      exact ⟨ret_str' (by rw [HSF.out, HV.out]; rfl), below2 HB9.out hb9⟩
     | false =>
      go_wp2_with fail
      refine (HSf.out _ HG9.out HP9.out).mono ?_
      rintro e w9 ⟨rfl, hb9⟩
      go_wp2
      go_ret
      exact ⟨ret_str' (by rw [HSF.out, HV.out]; rfl), below2 HB9.out hb9⟩
    | false =>
     cases tr with
     | true =>
      go_wp2_with fail
      refine (HSt2.out _ HG9.out HP9.out).mono ?_
      rintro e w9 ⟨rfl, hb9⟩
      go_wp2
      go_ret
      exact ⟨ret_str' (by rw [HST.out, HV.out]; rfl), below2 HB9.out hb9⟩
     | false =>
      go_wp2
      go_ret
      exact ⟨ret_str' (by rw [HV.out]; rfl), HB9.out⟩
   ·as_aux_lemma =>
    have HTl := hid hN
    have c0 : (P.toList == [110, 111, 45, 114, 101, 102, 101, 114, 114, 101, 114]) = false := (by rw [Lib.toList_data, hN]; decide)
    have c1 : (P.toList == [110, 111, 45, 114, 101, 102, 101, 114, 114, 101, 114, 45, 119, 104, 101, 110, 45, 100, 111, 119, 110, 103, 114, 97, 100, 101]) = false := (by rw [Lib.toList_data, hN]; decide)
    have c2 : (P.toList == [115, 97, 109, 101, 45, 111, 114, 105, 103, 105, 110]) = false := (by rw [Lib.toList_data, hN]; decide)
    have c3 : (P.toList == [111, 114, 105, 103, 105, 110]) = false := (by rw [Lib.toList_data, hN]; decide)
    have c4 : (P.toList == [115, 116, 114, 105, 99, 116, 45, 111, 114, 105, 103, 105, 110]) = false := (by rw [Lib.toList_data, hN]; decide)
    have c5 : (P.toList == [111, 114, 105, 103, 105, 110, 45, 119, 104, 101, 110, 45, 99, 114, 111, 115, 115, 45, 111, 114, 105, 103, 105, 110]) = false := (by rw [Lib.toList_data, hN]; decide)
    have c6 : (P.toList == [115, 116, 114, 105, 99, 116, 45, 111, 114, 105, 103, 105, 110, 45, 119, 104, 101, 110, 45, 99, 114, 111, 115, 115, 45, 111, 114, 105, 103, 105, 110]) = false := (by rw [Lib.toList_data, hN]; decide)
    have c7 : (P.toList == [117, 110, 115, 97, 102, 101, 45, 117, 114, 108]) = true := (by rw [Lib.toList_data, hN]; decide)
    clear hN
    rw [HTl.out] at HV
    cases sm with
    | true =>
     cases tr with
     | true =>
      go_wp2_with fail
      refine (HSf.out _ HG9.out HP9.out).mono ?_
      rintro e w9 ⟨rfl, hb9⟩
      go_wp2
      go_ret
      exact ⟨ret_str' (by rw [HSF.out, HV.out]; rfl), below2 HB9.out hb9⟩
     | false =>
      go_wp2_with fail
      refine (HSf.out _ HG9.out HP9.out).mono ?_
      rintro e w9 ⟨rfl, hb9⟩
      go_wp2
      go_ret
      exact ⟨ret_str' (by rw [HSF.out, HV.out]; rfl), below2 HB9.out hb9⟩
    | false =>
     cases tr with
     | true =>
      go_wp2_with fail
      refine (HSf.out _ HG9.out HP9.out).mono ?_
      rintro e w9 ⟨rfl, hb9⟩
      go_wp2
      go_ret
      exact ⟨ret_str' (by rw [HSF.out, HV.out]; rfl), below2 HB9.out hb9⟩
     | false =>
      go_wp2_with fail
      refine (HSf.out _ HG9.out HP9.out).mono ?_
      rintro e w9 ⟨rfl, hb9⟩
      go_wp2
      go_ret
      exact ⟨ret_str' (by rw [HSF.out, HV.out]; rfl), below2 HB9.out hb9⟩
  | false =>
   go_enter Tryz.func42, Tryz.ntmps42
   go_wp2_with fail
   refine (HKn.out _).mono ?_
   rintro e w0 ⟨rfl, hw0⟩
   rw [← hw0]
   clear hw0
   go_wp2_with fail
   refine wp_region_held_drew (S := (fun wx => Below W2.heap.size W2 wx)) (by kernel_rfl) HQ0.out (fun hHeld => ?_)
   refine wpAnyH_take (i := 0) (oi := ⟨some 12, _, _, _, _, _⟩) rfl (by kernel_rfl) (by kernel_rfl) (by kernel_rfl) (fun _ _ _ h => h) (yieldsIf_load_mid (by kernel_rfl) 24 (.tmp 4) rfl (w.heap.size) 0 rfl [.string d0, .string d1, .string d2, .string d3, .bool d4, .int .i64 d5, .bool d6, .slice da dn dc, .string d8, .string d9, .bool d10, .bool d11] _ HRu.out Tryz.underlying24 rfl sizeU) (by assumption) ?_
   (try simp only [Act.put, List.setIfInBounds_toArray, List.set_cons_zero, List.set_cons_succ])
   refine wpAnyH_take (i := 2) (oi := ⟨some 14, _, _, _, _, _⟩) rfl (by kernel_rfl) (by kernel_rfl) (by kernel_rfl) (fun _ _ _ h => h) (yieldsIf_load_mid (by kernel_rfl) 24 (.tmp 5) rfl (w.heap.size + 1) 0 rfl [.string v0, .string v1, .string v2, .string v3, .bool v4, .int .i64 v5, .bool v6, .slice va vn vc, .string v8, .string v9, .bool v10, .bool v11] _ HRv.out Tryz.underlying24 rfl sizeU) (by assumption) ?_
   (try simp only [Act.put, List.setIfInBounds_toArray, List.set_cons_zero, List.set_cons_succ])
   refine wpAnyH_ready (rs := [1]) (by kernel_rfl) (by simp) ?_
   refine AllReadyH.cons rfl (fun K9 hK => ?_) AllReadyH.nil
   rw [if_pos (by kernel_rfl)]
   go_simp
   go_wp2_with (go_at_call 33; refine (HOu3.out _ HQ0.out).mono ?_; rintro e w5 ⟨rfl, hba⟩)
   have HQ5 := hid (below2 HQ0.out hba)
   clear hba
   refine hK.out _ _ HQ5.out (fun hHeld2 => ?_)
   clear hK K9 hHeld
   rename _ => hHeld
   refine wpAnyH_ready (rs := [3]) (by kernel_rfl) (by simp) ?_
   refine AllReadyH.cons rfl (fun K9 hK => ?_) AllReadyH.nil
   rw [if_pos (by kernel_rfl)]
   go_simp
   go_wp2_with (go_at_call 33; refine (HOv3.out _ HQ5.out).mono ?_; rintro e w6 ⟨rfl, hba⟩)
   have HQ6 := hid (below2 HQ5.out hba)
   clear hba
   refine hK.out _ _ HQ6.out (fun hHeld2 => ?_)
   clear hK K9 hHeld
   rename _ => hHeld
   refine wpAnyH_ready (rs := [4]) (by kernel_rfl) (by simp) ?_
   refine AllReadyH.cons rfl (fun K9 hK => ?_) AllReadyH.nil
   rw [if_pos (by kernel_rfl)]
   go_simp
   go_wp2_with (go_at_call 24; refine (HSa3.out _ HQ6.out).mono ?_; rintro e w7 ⟨rfl, hba⟩)
   have HQ7 := hid (below2 HQ6.out hba)
   clear hba
   refine hK.out _ _ HQ7.out (fun hHeld2 => ?_)
   clear hK K9 hHeld
   rename _ => hHeld
   refine' wpAnyH_take (i := 5) (oi := ⟨some 7, _, _, _, _, _⟩) (v := _) rfl (by kernel_rfl) (by kernel_rfl) (by kernel_rfl) (fun _ _ _ h => h) (Or.inl ⟨by kernel_rfl, ?hy2⟩) (by assumption) ?rest2
   case hy2 => (intro wx hSw; (try dsimp only at hSw); go_simp; first | done | with_reducible rfl)
   (try simp only [Act.put, List.setIfInBounds_toArray, List.set_cons_zero, List.set_cons_succ])
   refine wpAnyH_done (by kernel_rfl) ?_ _
   have HB7 := hid (below2 HB2.out HQ7.out)
   have HG7 := hid (HG2.out.kept HQ7.out)
   have HP7 := hid (HP2.out.kept HQ7.out)
   have HPv7 := hid (HPv2.out.kept HQ7.out)
   have HA7 := hid (HA1.out.kept HQ7.out)
   have HAv7 := hid (HA2.out.kept HQ7.out)
   clear HQ5 HQ6
   have HB9 := HB7
   have HG9 := HG7
   have HP9 := HP7
   obtain ⟨y0, y1, y2, y3, y4, y5, y6, y7, y8, y9, y10, y11⟩ := adr_twelve HXd.out HA7.out
   rcases known_eight HKq.out with hN | hN | hN | hN | hN | hN | hN | hN
   ·as_aux_lemma =>
    have HTl := hid hN
    have c0 : (P.toList == [110, 111, 45, 114, 101, 102, 101, 114, 114, 101, 114]) = true := (by rw [Lib.toList_data, hN]; decide)
    have c1 : (P.toList == [110, 111, 45, 114, 101, 102, 101, 114, 114, 101, 114, 45, 119, 104, 101, 110, 45, 100, 111, 119, 110, 103, 114, 97, 100, 101]) = false := (by rw [Lib.toList_data, hN]; decide)
    have c2 : (P.toList == [115, 97, 109, 101, 45, 111, 114, 105, 103, 105, 110]) = false := (by rw [Lib.toList_data, hN]; decide)
    have c3 : (P.toList == [111, 114, 105, 103, 105, 110]) = false := (by rw [Lib.toList_data, hN]; decide)
    have c4 : (P.toList == [115, 116, 114, 105, 99, 116, 45, 111, 114, 105, 103, 105, 110]) = false := (by rw [Lib.toList_data, hN]; decide)
    have c5 : (P.toList == [111, 114, 105, 103, 105, 110, 45, 119, 104, 101, 110, 45, 99, 114, 111, 115, 115, 45, 111, 114, 105, 103, 105, 110]) = false := (by rw [Lib.toList_data, hN]; decide)
    have c6 : (P.toList == [115, 116, 114, 105, 99, 116, 45, 111, 114, 105, 103, 105, 110, 45, 119, 104, 101, 110, 45, 99, 114, 111, 115, 115, 45, 111, 114, 105, 103, 105, 110]) = false := (by rw [Lib.toList_data, hN]; decide)
    have c7 : (P.toList == [117, 110, 115, 97, 102, 101, 45, 117, 114, 108]) = false := (by rw [Lib.toList_data, hN]; decide)
    clear hN
    rw [HTl.out] at HV
    cases sm with
    | true =>
     go_wp2
     go_ret
     exact ⟨ret_str' (by rw [HV.out]; rfl), HB9.out⟩
    | false =>
     go_wp2
     go_ret
     exact ⟨ret_str' (by rw [HV.out]; rfl), HB9.out⟩
   ·as_aux_lemma =>
    have HTl := hid hN
    have c0 : (P.toList == [110, 111, 45, 114, 101, 102, 101, 114, 114, 101, 114]) = false := (by rw [Lib.toList_data, hN]; decide)
    have c1 : (P.toList == [110, 111, 45, 114, 101, 102, 101, 114, 114, 101, 114, 45, 119, 104, 101, 110, 45, 100, 111, 119, 110, 103, 114, 97, 100, 101]) = true := (by rw [Lib.toList_data, hN]; decide)
    have c2 : (P.toList == [115, 97, 109, 101, 45, 111, 114, 105, 103, 105, 110]) = false := (by rw [Lib.toList_data, hN]; decide)
    have c3 : (P.toList == [111, 114, 105, 103, 105, 110]) = false := (by rw [Lib.toList_data, hN]; decide)
    have c4 : (P.toList == [115, 116, 114, 105, 99, 116, 45, 111, 114, 105, 103, 105, 110]) = false := (by rw [Lib.toList_data, hN]; decide)
    have c5 : (P.toList == [111, 114, 105, 103, 105, 110, 45, 119, 104, 101, 110, 45, 99, 114, 111, 115, 115, 45, 111, 114, 105, 103, 105, 110]) = false := (by rw [Lib.toList_data, hN]; decide)
    have c6 : (P.toList == [115, 116, 114, 105, 99, 116, 45, 111, 114, 105, 103, 105, 110, 45, 119, 104, 101, 110, 45, 99, 114, 111, 115, 115, 45, 111, 114, 105, 103, 105, 110]) = false := (by rw [Lib.toList_data, hN]; decide)
    have c7 : (P.toList == [117, 110, 115, 97, 102, 101, 45, 117, 114, 108]) = false := (by rw [Lib.toList_data, hN]; decide)
    clear hN
    rw [HTl.out] at HV
    cases sm with
    | true =>
     go_wp2_with fail
     refine (HSf.out _ HG9.out HP9.out).mono ?_
     rintro e w9 ⟨rfl, hb9⟩
     go_wp2
     go_ret
     exact ⟨ret_str' (by rw [HSF.out, HV.out]; rfl), below2 HB9.out hb9⟩
    | false =>
     go_wp2_with fail
     refine (HSf.out _ HG9.out HP9.out).mono ?_
     rintro e w9 ⟨rfl, hb9⟩
     go_wp2
     go_ret
     exact ⟨ret_str' (by rw [HSF.out, HV.out]; rfl), below2 HB9.out hb9⟩
   ·as_aux_lemma =>
    have HTl := hid hN
    have c0 : (P.toList == [110, 111, 45, 114, 101, 102, 101, 114, 114, 101, 114]) = false := (by rw [Lib.toList_data, hN]; decide)
    have c1 : (P.toList == [110, 111, 45, 114, 101, 102, 101, 114, 114, 101, 114, 45, 119, 104, 101, 110, 45, 100, 111, 119, 110, 103, 114, 97, 100, 101]) = false := (by rw [Lib.toList_data, hN]; decide)
    have c2 : (P.toList == [115, 97, 109, 101, 45, 111, 114, 105, 103, 105, 110]) = true := (by rw [Lib.toList_data, hN]; decide)
    have c3 : (P.toList == [111, 114, 105, 103, 105, 110]) = false := (by rw [Lib.toList_data, hN]; decide)
    have c4 : (P.toList == [115, 116, 114, 105, 99, 116, 45, 111, 114, 105, 103, 105, 110]) = false := (by rw [Lib.toList_data, hN]; decide)
    have c5 : (P.toList == [111, 114, 105, 103, 105, 110, 45, 119, 104, 101, 110, 45, 99, 114, 111, 115, 115, 45, 111, 114, 105, 103, 105, 110]) = false := (by rw [Lib.toList_data, hN]; decide)
    have c6 : (P.toList == [115, 116, 114, 105, 99, 116, 45, 111, 114, 105, 103, 105, 110, 45, 119, 104, 101, 110, 45, 99, 114, 111, 115, 115, 45, 111, 114, 105, 103, 105, 110]) = false := (by rw [Lib.toList_data, hN]; decide)
    have c7 : (P.toList == [117, 110, 115, 97, 102, 101, 45, 117, 114, 108]) = false := (by rw [Lib.toList_data, hN]; decide)
    clear hN
    rw [HTl.out] at HV
    cases sm with
    | true =>
     go_wp2_with fail
     refine (HSf.out _ HG9.out HP9.out).mono ?_
     rintro e w9 ⟨rfl, hb9⟩
     go_wp2
     go_ret
     exact ⟨ret_str' (by rw [HSF.out, HV.out]; rfl), below2 HB9.out hb9⟩
    | false =>
     go_wp2
     go_ret
     exact ⟨ret_str' (by rw [HV.out]; rfl), HB9.out⟩
   ·as_aux_lemma =>
    have HTl := hid hN
    have c0 : (P.toList == [110, 111, 45, 114, 101, 102, 101, 114, 114, 101, 114]) = false := (by rw [Lib.toList_data, hN]; decide)
    have c1 : (P.toList == [110, 111, 45, 114, 101, 102, 101, 114, 114, 101, 114, 45, 119, 104, 101, 110, 45, 100, 111, 119, 110, 103, 114, 97, 100, 101]) = false := (by rw [Lib.toList_data, hN]; decide)
    have c2 : (P.toList == [115, 97, 109, 101, 45, 111, 114, 105, 103, 105, 110]) = false := (by rw [Lib.toList_data, hN]; decide)
    have c3 : (P.toList == [111, 114, 105, 103, 105, 110]) = true := (by rw [Lib.toList_data, hN]; decide)
    have c4 : (P.toList == [115, 116, 114, 105, 99, 116, 45, 111, 114, 105, 103, 105, 110]) = false := (by rw [Lib.toList_data, hN]; decide)
    have c5 : (P.toList == [111, 114, 105, 103, 105, 110, 45, 119, 104, 101, 110, 45, 99, 114, 111, 115, 115, 45, 111, 114, 105, 103, 105, 110]) = false := (by rw [Lib.toList_data, hN]; decide)
    have c6 : (P.toList == [115, 116, 114, 105, 99, 116, 45, 111, 114, 105, 103, 105, 110, 45, 119, 104, 101, 110, 45, 99, 114, 111, 115, 115, 45, 111, 114, 105, 103, 105, 110]) = false := (by rw [Lib.toList_data, hN]; decide)
    have c7 : (P.toList == [117, 110, 115, 97, 102, 101, 45, 117, 114, 108]) = false := (by rw [Lib.toList_data, hN]; decide)
    clear hN
    rw [HTl.out] at HV
    cases sm with
    | true =>
     go_wp2_with fail
     refine (HSt2.out _ HG9.out HP9.out).mono ?_
     rintro e w9 ⟨rfl, hb9⟩
     go_wp2
     go_ret
     exact ⟨ret_str' (by rw [HST.out, HV.out]; rfl), below2 HB9.out hb9⟩
    | false =>
     go_wp2_with fail
     refine (HSt2.out _ HG9.out HP9.out).mono ?_
     rintro e w9 ⟨rfl, hb9⟩
     go_wp2
     go_ret
     exact ⟨ret_str' (by rw [HST.out, HV.out]; rfl), below2 HB9.out hb9⟩
   ·as_aux_lemma =>
    have HTl := hid hN
    have c0 : (P.toList == [110, 111, 45, 114, 101, 102, 101, 114, 114, 101, 114]) = false := (by rw [Lib.toList_data, hN]; decide)
    have c1 : (P.toList == [110, 111, 45, 114, 101, 102, 101, 114, 114, 101, 114, 45, 119, 104, 101, 110, 45, 100, 111, 119, 110, 103, 114, 97, 100, 101]) = false := (by rw [Lib.toList_data, hN]; decide)
    have c2 : (P.toList == [115, 97, 109, 101, 45, 111, 114, 105, 103, 105, 110]) = false := (by rw [Lib.toList_data, hN]; decide)
    have c3 : (P.toList == [111, 114, 105, 103, 105, 110]) = false := (by rw [Lib.toList_data, hN]; decide)
    have c4 : (P.toList == [115, 116, 114, 105, 99, 116, 45, 111, 114, 105, 103, 105, 110]) = true := (by rw [Lib.toList_data, hN]; decide)
    have c5 : (P.toList == [111, 114, 105, 103, 105, 110, 45, 119, 104, 101, 110, 45, 99, 114, 111, 115, 115, 45, 111, 114, 105, 103, 105, 110]) = false := (by rw [Lib.toList_data, hN]; decide)
    have c6 : (P.toList == [115, 116, 114, 105, 99, 116, 45, 111, 114, 105, 103, 105, 110, 45, 119, 104, 101, 110, 45, 99, 114, 111, 115, 115, 45, 111, 114, 105, 103, 105, 110]) = false := (by rw [Lib.toList_data, hN]; decide)
    have c7 : (P.toList == [117, 110, 115, 97, 102, 101, 45, 117, 114, 108]) = false := (by rw [Lib.toList_data, hN]; decide)
    clear hN
    rw [HTl.out] at HV
    cases sm with
    | true =>
     go_wp2_with fail
     refine (HSt2.out _ HG9.out HP9.out).mono ?_
     rintro e w9 ⟨rfl, hb9⟩
     go_wp2
     go_ret
     exact ⟨ret_str' (by rw [HST.out, HV.out]; rfl), below2 HB9.out hb9⟩
    | false =>
     go_wp2_with fail
     refine (HSt2.out _ HG9.out HP9.out).mono ?_
     rintro e w9 ⟨rfl, hb9⟩
     go_wp2
     go_ret
     exact ⟨ret_str' (by rw [HST.out, HV.out]; rfl), below2 HB9.out hb9⟩
   ·as_aux_lemma =>
    have HTl := hid hN
    have c0 : (P.toList == [110, 111, 45, 114, 101, 102, 101, 114, 114, 101, 114]) = false := (by rw [Lib.toList_data, hN]; decide)
    have c1 : (P.toList == [110, 111, 45, 114, 101, 102, 101, 114, 114, 101, 114, 45, 119, 104, 101, 110, 45, 100, 111, 119, 110, 103, 114, 97, 100, 101]) = false := (by rw [Lib.toList_data, hN]; decide)
    have c2 : (P.toList == [115, 97, 109, 101, 45, 111, 114, 105, 103, 105, 110]) = false := (by rw [Lib.toList_data, hN]; decide)
    have c3 : (P.toList == [111, 114, 105, 103, 105, 110]) = false := (by rw [Lib.toList_data, hN]; decide)
    have c4 : (P.toList == [115, 116, 114, 105, 99, 116, 45, 111, 114, 105, 103, 105, 110]) = false := (by rw [Lib.toList_data, hN]; decide)
    have c5 : (P.toList == [111, 114, 105, 103, 105, 110, 45, 119, 104, 101, 110, 45, 99, 114, 111, 115, 115, 45, 111, 114, 105, 103, 105, 110]) = true := (by rw [Lib.toList_data, hN]; decide)
    have c6 : (P.toList == [115, 116, 114, 105, 99, 116, 45, 111, 114, 105, 103, 105, 110, 45, 119, 104, 101, 110, 45, 99, 114, 111, 115, 115, 45, 111, 114, 105, 103, 105, 110]) = false := (by rw [Lib.toList_data, hN]; decide)
    have c7 : (P.toList == [117, 110, 115, 97, 102, 101, 45, 117, 114, 108]) = false := (by rw [Lib.toList_data, hN]; decide)
    clear hN
    rw [HTl.out] at HV
    cases sm with
    | true =>
     go_wp2_with fail
     refine (HSf.out _ HG9.out HP9.out).mono ?_
     rintro e w9 ⟨rfl, hb9⟩
     go_wp2
     go_ret
     exact ⟨ret_str' (by rw [HSF.out, HV.out]; rfl), below2 HB9.out hb9⟩
    | false =>
     go_wp2_with fail
     refine (HSt2.out _ HG9.out HP9.out).mono ?_
     rintro e w9 ⟨rfl, hb9⟩
     go_wp2
     go_ret
     exact ⟨ret_str' (by rw [HST.out, HV.out]; rfl), below2 HB9.out hb9⟩
   ·as_aux_lemma =>
    have HTl := hid hN
    have c0 : (P.toList == [110, 111, 45, 114, 101, 102, 101, 114, 114, 101, 114]) = false := (by rw [Lib.toList_data, hN]; decide)
    have c1 : (P.toList == [110, 111, 45, 114, 101, 102, 101, 114, 114, 101, 114, 45, 119, 104, 101, 110, 45, 100, 111, 119, 110, 103, 114, 97, 100, 101]) = false := (by rw [Lib.toList_data, hN]; decide)
    have c2 : (P.toList == [115, 97, 109, 101, 45, 111, 114, 105, 103, 105, 110]) = false := (by rw [Lib.toList_data, hN]; decide)
    have c3 : (P.toList == [111, 114, 105, 103, 105, 110]) = false := (by rw [Lib.toList_data, hN]; decide)
    have c4 : (P.toList == [115, 116, 114, 105, 99, 116, 45, 111, 114, 105, 103, 105, 110]) = false := (by rw [Lib.toList_data, hN]; decide)
    have c5 : (P.toList == [111, 114, 105, 103, 105, 110, 45, 119, 104, 101, 110, 45, 99, 114, 111, 115, 115, 45, 111, 114, 105, 103, 105, 110]) = false := (by rw [Lib.toList_data, hN]; decide)
    have c6 : (P.toList == [115, 116, 114, 105, 99, 116, 45, 111, 114, 105, 103, 105, 110, 45, 119, 104, 101, 110, 45, 99, 114, 111, 115, 115, 45, 111, 114, 105, 103, 105, 110]) = true := (by rw [Lib.toList_data, hN]; decide)
    have c7 : (P.toList == [117, 110, 115, 97, 102, 101, 45, 117, 114, 108]) = false := (by rw [Lib.toList_data, hN]; decide)
    clear hN
    rw [HTl.out] at HV
    cases sm with
    | true =>
     go_wp2_with fail
     refine (HSf.out _ HG9.out HP9.out).mono ?_
     rintro e w9 ⟨rfl, hb9⟩
     go_wp2
     go_ret
     exact ⟨ret_str' (by rw [HSF.out, HV.out]; rfl), below2 HB9.out hb9⟩
    | false =>
     go_wp2_with fail
     refine (HSt2.out _ HG9.out HP9.out).mono ?_
     rintro e w9 ⟨rfl, hb9⟩
     go_wp2
     go_ret
     exact ⟨ret_str' (by rw [HST.out, HV.out]; rfl), below2 HB9.out hb9⟩
   ·as_aux_lemma =>
    have HTl := hid hN
    have c0 : (P.toList == [110, 111, 45, 114, 101, 102, 101, 114, 114, 101, 114]) = false := (by rw [Lib.toList_data, hN]; decide)
    have c1 : (P.toList == [110, 111, 45, 114, 101, 102, 101, 114, 114, 101, 114, 45, 119, 104, 101, 110, 45, 100, 111, 119, 110, 103, 114, 97, 100, 101]) = false := (by rw [Lib.toList_data, hN]; decide)
    have c2 : (P.toList == [115, 97, 109, 101, 45, 111, 114, 105, 103, 105, 110]) = false := (by rw [Lib.toList_data, hN]; decide)
    have c3 : (P.toList == [111, 114, 105, 103, 105, 110]) = false := (by rw [Lib.toList_data, hN]; decide)
    have c4 : (P.toList == [115, 116, 114, 105, 99, 116, 45, 111, 114, 105, 103, 105, 110]) = false := (by rw [Lib.toList_data, hN]; decide)
    have c5 : (P.toList == [111, 114, 105, 103, 105, 110, 45, 119, 104, 101, 110, 45, 99, 114, 111, 115, 115, 45, 111, 114, 105, 103, 105, 110]) = false := (by rw [Lib.toList_data, hN]; decide)
    have c6 : (P.toList == [115, 116, 114, 105, 99, 116, 45, 111, 114, 105, 103, 105, 110, 45, 119, 104, 101, 110, 45, 99, 114, 111, 115, 115, 45, 111, 114, 105, 103, 105, 110]) = false := (by rw [Lib.toList_data, hN]; decide)
    have c7 : (P.toList == [117, 110, 115, 97, 102, 101, 45, 117, 114, 108]) = true := (by rw [Lib.toList_data, hN]; decide)
    clear hN
    rw [HTl.out] at HV
    cases sm with
    | true =>
     go_wp2_with fail
     refine (HSf.out _ HG9.out HP9.out).mono ?_
     rintro e w9 ⟨rfl, hb9⟩
     go_wp2
     go_ret
     exact ⟨ret_str' (by rw [HSF.out, HV.out]; rfl), below2 HB9.out hb9⟩
    | false =>
     go_wp2_with fail
     refine (HSf.out _ HG9.out HP9.out).mono ?_
     rintro e w9 ⟨rfl, hb9⟩
     go_wp2
     go_ret
     exact ⟨ret_str' (by rw [HSF.out, HV.out]; rfl), below2 HB9.out hb9⟩
 | false =>
  have HNm := hid (name_no HKq.out)
  rw [HNm.out] at HV
  cases qh with
  | true =>
   go_enter Tryz.func42, Tryz.ntmps42
   go_wp2_with fail
   refine (HKn.out _).mono ?_
   rintro e w0 ⟨rfl, hw0⟩
   rw [← hw0]
   clear hw0
   go_wp2_with fail
   refine wp_region_held_drew (S := (fun wx => Below W2.heap.size W2 wx)) (by kernel_rfl) HQ0.out (fun hHeld => ?_)
   refine wpAnyH_take (i := 0) (oi := ⟨some 12, _, _, _, _, _⟩) rfl (by kernel_rfl) (by kernel_rfl) (by kernel_rfl) (fun _ _ _ h => h) (yieldsIf_load_mid (by kernel_rfl) 24 (.tmp 4) rfl (w.heap.size) 0 rfl [.string d0, .string d1, .string d2, .string d3, .bool d4, .int .i64 d5, .bool d6, .slice da dn dc, .string d8, .string d9, .bool d10, .bool d11] _ HRu.out Tryz.underlying24 rfl sizeU) (by assumption) ?_
   (try simp only [Act.put, List.setIfInBounds_toArray, List.set_cons_zero, List.set_cons_succ])
   refine wpAnyH_take (i := 2) (oi := ⟨some 14, _, _, _, _, _⟩) rfl (by kernel_rfl) (by kernel_rfl) (by kernel_rfl) (fun _ _ _ h => h) (yieldsIf_load_mid (by kernel_rfl) 24 (.tmp 5) rfl (w.heap.size + 1) 0 rfl [.string v0, .string v1, .string v2, .string v3, .bool v4, .int .i64 v5, .bool v6, .slice va vn vc, .string v8, .string v9, .bool v10, .bool v11] _ HRv.out Tryz.underlying24 rfl sizeU) (by assumption) ?_
   (try simp only [Act.put, List.setIfInBounds_toArray, List.set_cons_zero, List.set_cons_succ])
   refine wpAnyH_ready (rs := [1]) (by kernel_rfl) (by simp) ?_
   refine AllReadyH.cons rfl (fun K9 hK => ?_) AllReadyH.nil
   rw [if_pos (by kernel_rfl)]
   go_simp
   go_wp2_with (go_at_call 33; refine (HOu3.out _ HQ0.out).mono ?_; rintro e w5 ⟨rfl, hba⟩)
   have HQ5 := hid (below2 HQ0.out hba)
   clear hba
   refine hK.out _ _ HQ5.out (fun hHeld2 => ?_)
   clear hK K9 hHeld
   rename _ => hHeld
   refine wpAnyH_ready (rs := [3]) (by kernel_rfl) (by simp) ?_
   refine AllReadyH.cons rfl (fun K9 hK => ?_) AllReadyH.nil
   rw [if_pos (by kernel_rfl)]
   go_simp
   go_wp2_with (go_at_call 33; refine (HOv3.out _ HQ5.out).mono ?_; rintro e w6 ⟨rfl, hba⟩)
   have HQ6 := hid (below2 HQ5.out hba)
   clear hba
   refine hK.out _ _ HQ6.out (fun hHeld2 => ?_)
   clear hK K9 hHeld
   rename _ => hHeld
   refine wpAnyH_ready (rs := [4]) (by kernel_rfl) (by simp) ?_
   refine AllReadyH.cons rfl (fun K9 hK => ?_) AllReadyH.nil
   rw [if_pos (by kernel_rfl)]
   go_simp
   go_wp2_with (go_at_call 24; refine (HSa3.out _ HQ6.out).mono ?_; rintro e w7 ⟨rfl, hba⟩)
   have HQ7 := hid (below2 HQ6.out hba)
   clear hba
   refine hK.out _ _ HQ7.out (fun hHeld2 => ?_)
   clear hK K9 hHeld
   rename _ => hHeld
   refine' wpAnyH_take (i := 5) (oi := ⟨some 7, _, _, _, _, _⟩) (v := _) rfl (by kernel_rfl) (by kernel_rfl) (by kernel_rfl) (fun _ _ _ h => h) (Or.inl ⟨by kernel_rfl, ?hy3⟩) (by assumption) ?rest3
   case hy3 => (intro wx hSw; (try dsimp only at hSw); go_simp; first | done | with_reducible rfl)
   (try simp only [Act.put, List.setIfInBounds_toArray, List.set_cons_zero, List.set_cons_succ])
   refine wpAnyH_done (by kernel_rfl) ?_ _
   have HB7 := hid (below2 HB2.out HQ7.out)
   have HG7 := hid (HG2.out.kept HQ7.out)
   have HP7 := hid (HP2.out.kept HQ7.out)
   have HPv7 := hid (HPv2.out.kept HQ7.out)
   have HA7 := hid (HA1.out.kept HQ7.out)
   have HAv7 := hid (HA2.out.kept HQ7.out)
   clear HQ5 HQ6
   obtain ⟨z0, z1, z2, z3, z4, z5, z6, z7, z8, z9, z10, z11⟩ := adr_twelve HXv.out HAv7.out
   have y0 := HA7.out.cell 0 _ (by rw [HXd.out]; rfl)
   go_wp2_with fail
   refine (HTr.out _ HG7.out HPv7.out).mono ?_
   rintro e w8 ⟨rfl, hb8⟩
   have HB9 := hid (below2 HB7.out hb8)
   have HG9 := hid (HG7.out.kept hb8)
   have HP9 := hid (HP7.out.kept hb8)
   have HA9 := hid (HA7.out.kept hb8)
   clear hb8 z0 z1 z2 z3 z4 z5 z6 z7 z8 z9 z10 z11 y0
   obtain ⟨y0, y1, y2, y3, y4, y5, y6, y7, y8, y9, y10, y11⟩ := adr_twelve HXd.out HA9.out
   have c0 : ((⟨#[115, 116, 114, 105, 99, 116, 45, 111, 114, 105, 103, 105, 110, 45, 119, 104, 101, 110, 45, 99, 114, 111, 115, 115, 45, 111, 114, 105, 103, 105, 110]⟩ : ByteArray).toList == [110, 111, 45, 114, 101, 102, 101, 114, 114, 101, 114]) = false := (by decide +kernel)
   have c1 : ((⟨#[115, 116, 114, 105, 99, 116, 45, 111, 114, 105, 103, 105, 110, 45, 119, 104, 101, 110, 45, 99, 114, 111, 115, 115, 45, 111, 114, 105, 103, 105, 110]⟩ : ByteArray).toList == [110, 111, 45, 114, 101, 102, 101, 114, 114, 101, 114, 45, 119, 104, 101, 110, 45, 100, 111, 119, 110, 103, 114, 97, 100, 101]) = false := (by decide +kernel)
   have c2 : ((⟨#[115, 116, 114, 105, 99, 116, 45, 111, 114, 105, 103, 105, 110, 45, 119, 104, 101, 110, 45, 99, 114, 111, 115, 115, 45, 111, 114, 105, 103, 105, 110]⟩ : ByteArray).toList == [115, 97, 109, 101, 45, 111, 114, 105, 103, 105, 110]) = false := (by decide +kernel)
   have c3 : ((⟨#[115, 116, 114, 105, 99, 116, 45, 111, 114, 105, 103, 105, 110, 45, 119, 104, 101, 110, 45, 99, 114, 111, 115, 115, 45, 111, 114, 105, 103, 105, 110]⟩ : ByteArray).toList == [111, 114, 105, 103, 105, 110]) = false := (by decide +kernel)
   have c4 : ((⟨#[115, 116, 114, 105, 99, 116, 45, 111, 114, 105, 103, 105, 110, 45, 119, 104, 101, 110, 45, 99, 114, 111, 115, 115, 45, 111, 114, 105, 103, 105, 110]⟩ : ByteArray).toList == [115, 116, 114, 105, 99, 116, 45, 111, 114, 105, 103, 105, 110]) = false := (by decide +kernel)
   have c5 : ((⟨#[115, 116, 114, 105, 99, 116, 45, 111, 114, 105, 103, 105, 110, 45, 119, 104, 101, 110, 45, 99, 114, 111, 115, 115, 45, 111, 114, 105, 103, 105, 110]⟩ : ByteArray).toList == [111, 114, 105, 103, 105, 110, 45, 119, 104, 101, 110, 45, 99, 114, 111, 115, 115, 45, 111, 114, 105, 103, 105, 110]) = false := (by decide +kernel)
   have c6 : ((⟨#[115, 116, 114, 105, 99, 116, 45, 111, 114, 105, 103, 105, 110, 45, 119, 104, 101, 110, 45, 99, 114, 111, 115, 115, 45, 111, 114, 105, 103, 105, 110]⟩ : ByteArray).toList == [115, 116, 114, 105, 99, 116, 45, 111, 114, 105, 103, 105, 110, 45, 119, 104, 101, 110, 45, 99, 114, 111, 115, 115, 45, 111, 114, 105, 103, 105, 110]) = true := (by decide +kernel)
   have c7 : ((⟨#[115, 116, 114, 105, 99, 116, 45, 111, 114, 105, 103, 105, 110, 45, 119, 104, 101, 110, 45, 99, 114, 111, 115, 115, 45, 111, 114, 105, 103, 105, 110]⟩ : ByteArray).toList == [117, 110, 115, 97, 102, 101, 45, 117, 114, 108]) = false := (by decide +kernel)
   cases sm with
   | true =>
    cases tr with
    | true =>
     go_wp2_with fail
     refine (HSf.out _ HG9.out HP9.out).mono ?_
     rintro e w9 ⟨rfl, hb9⟩
     go_wp2
     go_ret
     exact ⟨ret_str' (by rw [HSF.out, HV.out]; rfl), below2 HB9.out hb9⟩
    | false =>
     go_wp2_with fail
     refine (HSf.out _ HG9.out HP9.out).mono ?_
     rintro e w9 ⟨rfl, hb9⟩
     go_wp2
     go_ret
     exact ⟨ret_str' (by rw [HSF.out, HV.out]; rfl), below2 HB9.out hb9⟩
   | false =>
    cases tr with
    | true =>
     go_wp2_with fail
     refine (HSt2.out _ HG9.out HP9.out).mono ?_
     rintro e w9 ⟨rfl, hb9⟩
     go_wp2
     go_ret
     exact ⟨ret_str' (by rw [HST.out, HV.out]; rfl), below2 HB9.out hb9⟩
    | false =>
     go_wp2
     go_ret
     exact ⟨ret_str' (by rw [HV.out]; rfl), HB9.out⟩
  | false =>
   go_enter Tryz.func42, Tryz.ntmps42
   go_wp2_with fail
   refine (HKn.out _).mono ?_
   rintro e w0 ⟨rfl, hw0⟩
   rw [← hw0]
   clear hw0
   go_wp2_with fail
   refine wp_region_held_drew (S := (fun wx => Below W2.heap.size W2 wx)) (by kernel_rfl) HQ0.out (fun hHeld => ?_)
   refine wpAnyH_take (i := 0) (oi := ⟨some 12, _, _, _, _, _⟩) rfl (by kernel_rfl) (by kernel_rfl) (by kernel_rfl) (fun _ _ _ h => h) (yieldsIf_load_mid (by kernel_rfl) 24 (.tmp 4) rfl (w.heap.size) 0 rfl [.string d0, .string d1, .string d2, .string d3, .bool d4, .int .i64 d5, .bool d6, .slice da dn dc, .string d8, .string d9, .bool d10, .bool d11] _ HRu.out Tryz.underlying24 rfl sizeU) (by assumption) ?_
   (try simp only [Act.put, List.setIfInBounds_toArray, List.set_cons_zero, List.set_cons_succ])
   refine wpAnyH_take (i := 2) (oi := ⟨some 14, _, _, _, _, _⟩) rfl (by kernel_rfl) (by kernel_rfl) (by kernel_rfl) (fun _ _ _ h => h) (yieldsIf_load_mid (by kernel_rfl) 24 (.tmp 5) rfl (w.heap.size + 1) 0 rfl [.string v0, .string v1, .string v2, .string v3, .bool v4, .int .i64 v5, .bool v6, .slice va vn vc, .string v8, .string v9, .bool v10, .bool v11] _ HRv.out Tryz.underlying24 rfl sizeU) (by assumption) ?_
   (try simp only [Act.put, List.setIfInBounds_toArray, List.set_cons_zero, List.set_cons_succ])
   refine wpAnyH_ready (rs := [1]) (by kernel_rfl) (by simp) ?_
   refine AllReadyH.cons rfl (fun K9 hK => ?_) AllReadyH.nil
   rw [if_pos (by kernel_rfl)]
   go_simp
   go_wp2_with (go_at_call 33; refine (HOu3.out _ HQ0.out).mono ?_; rintro e w5 ⟨rfl, hba⟩)
   have HQ5 := hid (below2 HQ0.out hba)
   clear hba
   refine hK.out _ _ HQ5.out (fun hHeld2 => ?_)
   clear hK K9 hHeld
   rename _ => hHeld
   refine wpAnyH_ready (rs := [3]) (by kernel_rfl) (by simp) ?_
   refine AllReadyH.cons rfl (fun K9 hK => ?_) AllReadyH.nil
   rw [if_pos (by kernel_rfl)]
   go_simp
   go_wp2_with (go_at_call 33; refine (HOv3.out _ HQ5.out).mono ?_; rintro e w6 ⟨rfl, hba⟩)
   have HQ6 := hid (below2 HQ5.out hba)
   clear hba
   refine hK.out _ _ HQ6.out (fun hHeld2 => ?_)
   clear hK K9 hHeld
   rename _ => hHeld
   refine wpAnyH_ready (rs := [4]) (by kernel_rfl) (by simp) ?_
   refine AllReadyH.cons rfl (fun K9 hK => ?_) AllReadyH.nil
   rw [if_pos (by kernel_rfl)]
   go_simp
   go_wp2_with (go_at_call 24; refine (HSa3.out _ HQ6.out).mono ?_; rintro e w7 ⟨rfl, hba⟩)
   have HQ7 := hid (below2 HQ6.out hba)
   clear hba
   refine hK.out _ _ HQ7.out (fun hHeld2 => ?_)
   clear hK K9 hHeld
   rename _ => hHeld
   refine' wpAnyH_take (i := 5) (oi := ⟨some 7, _, _, _, _, _⟩) (v := _) rfl (by kernel_rfl) (by kernel_rfl) (by kernel_rfl) (fun _ _ _ h => h) (Or.inl ⟨by kernel_rfl, ?hy4⟩) (by assumption) ?rest4
   case hy4 => (intro wx hSw; (try dsimp only at hSw); go_simp; first | done | with_reducible rfl)
   (try simp only [Act.put, List.setIfInBounds_toArray, List.set_cons_zero, List.set_cons_succ])
   refine wpAnyH_done (by kernel_rfl) ?_ _
   have HB7 := hid (below2 HB2.out HQ7.out)
   have HG7 := hid (HG2.out.kept HQ7.out)
   have HP7 := hid (HP2.out.kept HQ7.out)
   have HPv7 := hid (HPv2.out.kept HQ7.out)
   have HA7 := hid (HA1.out.kept HQ7.out)
   have HAv7 := hid (HA2.out.kept HQ7.out)
   clear HQ5 HQ6
   have HB9 := HB7
   have HG9 := HG7
   have HP9 := HP7
   obtain ⟨y0, y1, y2, y3, y4, y5, y6, y7, y8, y9, y10, y11⟩ := adr_twelve HXd.out HA7.out
   have c0 : ((⟨#[115, 116, 114, 105, 99, 116, 45, 111, 114, 105, 103, 105, 110, 45, 119, 104, 101, 110, 45, 99, 114, 111, 115, 115, 45, 111, 114, 105, 103, 105, 110]⟩ : ByteArray).toList == [110, 111, 45, 114, 101, 102, 101, 114, 114, 101, 114]) = false := (by decide +kernel)
   have c1 : ((⟨#[115, 116, 114, 105, 99, 116, 45, 111, 114, 105, 103, 105, 110, 45, 119, 104, 101, 110, 45, 99, 114, 111, 115, 115, 45, 111, 114, 105, 103, 105, 110]⟩ : ByteArray).toList == [110, 111, 45, 114, 101, 102, 101, 114, 114, 101, 114, 45, 119, 104, 101, 110, 45, 100, 111, 119, 110, 103, 114, 97, 100, 101]) = false := (by decide +kernel)
   have c2 : ((⟨#[115, 116, 114, 105, 99, 116, 45, 111, 114, 105, 103, 105, 110, 45, 119, 104, 101, 110, 45, 99, 114, 111, 115, 115, 45, 111, 114, 105, 103, 105, 110]⟩ : ByteArray).toList == [115, 97, 109, 101, 45, 111, 114, 105, 103, 105, 110]) = false := (by decide +kernel)
   have c3 : ((⟨#[115, 116, 114, 105, 99, 116, 45, 111, 114, 105, 103, 105, 110, 45, 119, 104, 101, 110, 45, 99, 114, 111, 115, 115, 45, 111, 114, 105, 103, 105, 110]⟩ : ByteArray).toList == [111, 114, 105, 103, 105, 110]) = false := (by decide +kernel)
   have c4 : ((⟨#[115, 116, 114, 105, 99, 116, 45, 111, 114, 105, 103, 105, 110, 45, 119, 104, 101, 110, 45, 99, 114, 111, 115, 115, 45, 111, 114, 105, 103, 105, 110]⟩ : ByteArray).toList == [115, 116, 114, 105, 99, 116, 45, 111, 114, 105, 103, 105, 110]) = false := (by decide +kernel)
   have c5 : ((⟨#[115, 116, 114, 105, 99, 116, 45, 111, 114, 105, 103, 105, 110, 45, 119, 104, 101, 110, 45, 99, 114, 111, 115, 115, 45, 111, 114, 105, 103, 105, 110]⟩ : ByteArray).toList == [111, 114, 105, 103, 105, 110, 45, 119, 104, 101, 110, 45, 99, 114, 111, 115, 115, 45, 111, 114, 105, 103, 105, 110]) = false := (by decide +kernel)
   have c6 : ((⟨#[115, 116, 114, 105, 99, 116, 45, 111, 114, 105, 103, 105, 110, 45, 119, 104, 101, 110, 45, 99, 114, 111, 115, 115, 45, 111, 114, 105, 103, 105, 110]⟩ : ByteArray).toList == [115, 116, 114, 105, 99, 116, 45, 111, 114, 105, 103, 105, 110, 45, 119, 104, 101, 110, 45, 99, 114, 111, 115, 115, 45, 111, 114, 105, 103, 105, 110]) = true := (by decide +kernel)
   have c7 : ((⟨#[115, 116, 114, 105, 99, 116, 45, 111, 114, 105, 103, 105, 110, 45, 119, 104, 101, 110, 45, 99, 114, 111, 115, 115, 45, 111, 114, 105, 103, 105, 110]⟩ : ByteArray).toList == [117, 110, 115, 97, 102, 101, 45, 117, 114, 108]) = false := (by decide +kernel)
   cases sm with
   | true =>
    go_wp2_with fail
    refine (HSf.out _ HG9.out HP9.out).mono ?_
    rintro e w9 ⟨rfl, hb9⟩
    go_wp2
    go_ret
    exact ⟨ret_str' (by rw [HSF.out, HV.out]; rfl), below2 HB9.out hb9⟩
   | false =>
    go_wp2_with fail
    refine (HSt2.out _ HG9.out HP9.out).mono ?_
    rintro e w9 ⟨rfl, hb9⟩
    go_wp2
    go_ret
    exact ⟨ret_str' (by rw [HST.out, HV.out]; rfl), below2 HB9.out hb9⟩

end Go.Proofs.YtamockkjbkibdaaGreatDoor
