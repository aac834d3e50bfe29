/-
  Walks and plain facts that this claim leans on, put together out of 1 texts: Ezi.
-/
import Derived.Test.YtgoefeaopegdoaaGreatDoorProg
import Derived.Test.YtgoefeaopegdoaaGreatDoorQx1
import Derived.Test.YtgoefeaopegdoaaGreatDoorQx2
import Derived.Test.YtgoefeaopegdoaaGreatDoorQx3
import Derived.Test.YtgoefeaopegdoaaGreatDoorQx4
import Derived.Test.YtgoefeaopegdoaaGreatDoorQx5
import Derived.Test.YtgoefeaopegdoaaGreatDoorQx6
import Derived.Test.YtgoefeaopegdoaaGreatDoorQx7
import Derived.Test.YtgoefeaopegdoaaGreatDoorQx8
import Derived.Test.YtgoefeaopegdoaaGreatDoorQx9
import Derived.Test.YtgoefeaopegdoaaGreatDoorQx10
import Derived.Test.YtgoefeaopegdoaaGreatDoorQx11
import Derived.Test.YtgoefeaopegdoaaGreatDoorQx12
import Derived.Test.YtgoefeaopegdoaaGreatDoorQx13
import Derived.Test.YtgoefeaopegdoaaGreatDoorQx14
import Derived.Test.YtgoefeaopegdoaaGreatDoorQx15
import Derived.Test.YtgoefeaopegdoaaGreatDoorQx16
import Derived.Test.YtgoefeaopegdoaaGreatDoorQx17
import Derived.Test.YtgoefeaopegdoaaGreatDoorQx18
import Derived.Test.YtgoefeaopegdoaaGreatDoorQx19
import Derived.Test.YtgoefeaopegdoaaGreatDoorQx20
import Derived.Test.YtgoefeaopegdoaaGreatDoorQx21
import Derived.Test.YtgoefeaopegdoaaGreatDoorQx22
import Derived.Test.YtgoefeaopegdoaaGreatDoorQx23
import Derived.Test.YtgoefeaopegdoaaGreatDoorQx24
import Derived.Test.YtgoefeaopegdoaaGreatDoorQx25
import Derived.Test.YtgoefeaopegdoaaGreatDoorQx26
import Derived.Test.YtgoefeaopegdoaaGreatDoorQx27
import Derived.Test.YtgoefeaopegdoaaGreatDoorQx28
import Derived.Test.YtgoefeaopegdoaaGreatDoorQx29
import Derived.Test.YtgoefeaopegdoaaGreatDoorQx30
import Derived.Test.YtgoefeaopegdoaaGreatDoorQn1
import Derived.Test.YtgoefeaopegdoaaGreatDoorQn2
import Derived.Deep.Cut
import Derived.Deep.QuietTactic
import Derived.BigQuiet
import Derived.BigRegion
import Derived.Deep.RegionHeld
import Derived.Laws.AppendOwn
import Derived.Lib.IndexMore
import Derived.Lib.Join
import Derived.Lib.LastIndexByte
import Derived.WalkKit
import Derived.Lib.Strings
import Derived.Lib.UnsafeStr
import Derived.Laws.IdiomStrings
import Derived.Laws.BitsAllLaws
import Derived.Lib.Bytealg
import Derived.Lib.BufferMore
import Derived.Lib.BufferRead
import Derived.Lib.RuneBytes
import Derived.Laws.RangeAny
import Derived.LoopN
import Derived.RegionTactic
import Derived.Deep.RegionWith
import Derived.OwnWalk
import Derived.Deep.RegionLaw
import Derived.Laws.OwnMore
import Derived.Deep.LoopGhost
import Derived.Shelf.Strings.Builder1
import Derived.Shelf.Strings.Builder2
import Derived.Shelf.Strings.OnBuilder
import Derived.Shelf.Strings.Trim
import Derived.Shelf.Small.Utf8
import Derived.Shelf.Small.Bits
import Derived.Shelf.Small.Strs
import Derived.Shelf.Small.Wraps
import Derived.Shelf.Strings.BuilderF
import Derived.Shelf.Strings.BuilderK
import Derived.Shelf.Strings.BuilderRune
import Derived.Shelf.Utf8.AppendRune
import Derived.Shelf.Utf8.AppendRunePlain
import Derived.Shelf.Strings.Builder2Cap
import Derived.Shelf.Strconv.Itoa0
import Derived.Shelf.Strconv.Itoa1
import Derived.Shelf.LaysM
import Derived.Shelf.Strconv.Itoa2
import Derived.Shelf.Strconv.Itoa3
import Derived.Shelf.Strings.Search1
import Derived.Shelf.Strings.Search2
import Derived.Shelf.Strings.Search3
import Derived.Shelf.Strings.Cut
import Derived.Shelf.Strings.Count
import Derived.Shelf.Strings.Shaped
import Derived.Shelf.Strings.LastIndex
import Derived.Shelf.Strings.Prefix
import Derived.Shelf.Strings.Split
import Derived.Shelf.Strings.Replace
import Derived.Shelf.Strings.Runes
import Derived.Shelf.Strings.IndexAny
import Derived.Shelf.Strings.AsciiSet
import Derived.Shelf.Strings.IndexAnyAll
import Derived.Shelf.Unicode.DecodeSlow
import Derived.Ground.Names2Prog
import Derived.Shelf.Slices.Clone
import Derived.Shelf.Slices.In.SortNone
import Derived.Ground.SlgnProg
import Derived.Shelf.SlicesE.Clone
import Derived.Laws.AppendOwnNone
import Derived.Scope
import Derived.ScopeJumps
import Derived.WalkMore
import Derived.Lib.IndexAny
import Derived.Lib.Replace
import Derived.Lib.TrimByte
import Derived.Lib.ItoaNum
import Derived.Lib.DecodeN
import Derived.Lib.OthersKept
import Derived.Laws.BytesString
import Derived.Deep.WholeRow
import Derived.Lib.AppendStr
import Derived.WalkSpells
import Derived.WalkLawsBesides
import Derived.Lib.AppendIntMem
import Derived.Lib.SmallJoins
import Derived.WalkSmall
import Derived.Laws.CopyOwn
import Derived.Laws.ResultCell
import Derived.Deep.MidRow
import Derived.Lib.FrozenHead2
import Derived.Lib.Builder
import Derived.Lib.SlTrimSet
import Derived.Below
import Derived.Shelf.Strings.SlTrimAscii
import Derived.Laws.Runes
set_option linter.unusedSimpArgs false
set_option linter.unusedVariables false

namespace Go.Proofs.YtgoefeaopegdoaaGreatDoor
open Go.RowKit

theorem hd_lit (w : World) (L : List Hd) (n : Nat) (hn : L.length = n) (h : n ≤ 1000) : HdAt (w.alloc (.cells (cellsH L).toArray 38)) (.slice (some ⟨w.heap.size, 0, none⟩) n n) L := by
 subst hn
 have h1 := World.ownsRow_lit (base := w.heap.size) (e := 38) (size := 2) w (cellsH L).toArray L.length (Nat.le_refl _) (by unfold maxLen; omega) (by rw [List.size_toArray, cellsH_len])
 rw [List.toList_toArray] at h1
 exact own_hd h1

theorem hdr_no {o : Org} {L : List Adr} {m d : Int} (h : lastT L = false) : hdrV o L m d = [] := by unfold hdrV; rw [h]; rfl

theorem hdr_yes15 {o : Org} {L : List Adr} {m d : Int} (h : lastT L = true) : hdrV o L m d = hdr3 (wd15 (rk15 o L)) (modS m) (desS d) := by unfold hdrV; rw [h]; rfl

theorem mn_1 : isOk (urlV [104, 116, 116, 112, 115, 58, 47, 47, 98, 47]) = true := by decide +kernel

theorem mn_2 : isOk (urlV [104, 116, 116, 112, 58, 47, 47, 97, 47]) = true := by decide +kernel

theorem mn_3 : shaV15 [⟨tCorp, [83, 97, 109, 101, 45, 79, 114, 105, 103, 105, 110]⟩] (ofT [104, 116, 116, 112, 115, 58, 47, 47, 97]) (adrOf (urlV [104, 116, 116, 112, 115, 58, 47, 47, 98, 47])) = true := by decide +kernel

theorem mn_4 : shaV15 [] (ofT [104, 116, 116, 112, 115, 58, 47, 47, 97]) (adrOf (urlV [104, 116, 116, 112, 115, 58, 47, 47, 98, 47])) = true := by decide +kernel

theorem mn_5 : rk15 (ofT [104, 116, 116, 112, 115, 58, 47, 47, 98]) [(adrOf (urlV [104, 116, 116, 112, 115, 58, 47, 47, 98, 47])), (adrOf (urlV [104, 116, 116, 112, 58, 47, 47, 97, 47]))] = 2 := by decide +kernel

theorem mn_6 : lastT [(adrOf (urlV [104, 116, 116, 112, 115, 58, 47, 47, 98, 47])), (adrOf (urlV [104, 116, 116, 112, 58, 47, 47, 97, 47]))] = false := by decide +kernel

theorem mn_7 : lastT [(adrOf (urlV [104, 116, 116, 112, 115, 58, 47, 47, 98, 47]))] = true := by decide +kernel

theorem mn_8 : rk15 (ofT [104, 116, 116, 112, 115, 58, 47, 47, 98]) [(adrOf (urlV [104, 116, 116, 112, 115, 58, 47, 47, 98, 47]))] = 0 := by decide +kernel

theorem mn_9 : timV [⟨[84, 105, 109, 105, 110, 103, 45, 65, 108, 108, 111, 119, 45, 79, 114, 105, 103, 105, 110], [120, 44, 32, 104, 116, 116, 112, 115, 58, 47, 47, 97]⟩] (ofT [104, 116, 116, 112, 115, 58, 47, 47, 97]) = true := by decide +kernel

theorem mn_10 : timV [] (ofT [104, 116, 116, 112, 115, 58, 47, 47, 97]) = false := by decide +kernel

theorem mn_11 : decide ((pcs15 [⟨[84, 105, 109, 105, 110, 103, 45, 65, 108, 108, 111, 119, 45, 79, 114, 105, 103, 105, 110], [120, 44, 32, 104, 116, 116, 112, 115, 58, 47, 47, 97]⟩] nTao).length ≤ 1000000000) = true := by decide +kernel

theorem mn_12 : decide ((pcs15 [] nTao).length ≤ 1000000000) = true := by decide +kernel

theorem mn_13 : (decide ((ofT [104, 116, 116, 112, 115, 58, 47, 47, 97]).scheme.length ≤ 1000000) && decide ((ofT [104, 116, 116, 112, 115, 58, 47, 47, 97]).host.length ≤ 1000000) && decide (0 ≤ (ofT [104, 116, 116, 112, 115, 58, 47, 47, 97]).port) && decide ((ofT [104, 116, 116, 112, 115, 58, 47, 47, 97]).port ≤ 65535)) = true := by decide +kernel

theorem mn_14 : hdr3 (wd15 0) (modS 3) (desS 5) = [⟨nSite, [115, 97, 109, 101, 45, 111, 114, 105, 103, 105, 110]⟩, ⟨nMode, [99, 111, 114, 115]⟩, ⟨nDest, [102, 111, 110, 116]⟩] := by decide +kernel

set_option maxHeartbeats 32000000 in
set_option maxRecDepth 100000 in
theorem metaNumbers_walk (w : World) (hg : Gd w) : Calls Tryz.prog 3 #[] w fun e w' => e = .returned (.bool true) ∧ Below w.heap.size w w' := by
 have HG := hid hg
 have HO1 := hid (of15_at (⟨#[104, 116, 116, 112, 115, 58, 47, 47, 97]⟩ : ByteArray) _ rfl (by decide))
 have HO2 := hid (of15_at (⟨#[104, 116, 116, 112, 115, 58, 47, 47, 98]⟩ : ByteArray) _ rfl (by decide))
 have HS1 := hid (ofT_site [104, 116, 116, 112, 115, 58, 47, 47, 97])
 have HS2 := hid (ofT_site [104, 116, 116, 112, 115, 58, 47, 47, 98])
 have HU := hid (fun (v : Value) (Z : World) (h : TxAt Z v [[104, 116, 116, 112, 115, 58, 47, 47, 98, 47], [104, 116, 116, 112, 58, 47, 47, 97, 47]]) => urls15_any v _ Z h (fun x hx => by
  rcases List.mem_cons.1 hx with rfl | hx
  ·decide
  ·rw [List.mem_singleton.1 hx]; decide))
 rw [urls_two mn_1 mn_2] at HU
 unfold UrPost at HU
 have h3 := mn_3
 have h4 := mn_4
 have h5 := mn_5
 have h6 := mn_6
 have h7 := mn_7
 have h8 := mn_8
 have h9 := mn_9
 have h10 := mn_10
 have h13 := mn_13
 generalize ofT (⟨#[104, 116, 116, 112, 115, 58, 47, 47, 97]⟩ : ByteArray).data.toList = O1 at *
 generalize ofT (⟨#[104, 116, 116, 112, 115, 58, 47, 47, 98]⟩ : ByteArray).data.toList = O2 at *
 generalize adrOf (urlV [104, 116, 116, 112, 115, 58, 47, 47, 98, 47]) = A at *
 generalize adrOf (urlV [104, 116, 116, 112, 58, 47, 47, 97, 47]) = C at *
 simp only [Bool.and_eq_true, decide_eq_true_eq] at h13
 have HT1 := hid (fun (v : Value) (Z : World) (hZ : Gd Z) (hh : HdAt Z v [⟨[84, 105, 109, 105, 110, 103, 45, 65, 108, 108, 111, 119, 45, 79, 114, 105, 103, 105, 110], [120, 44, 32, 104, 116, 116, 112, 115, 58, 47, 47, 97]⟩]) => timed15_any v [⟨[84, 105, 109, 105, 110, 103, 45, 65, 108, 108, 111, 119, 45, 79, 114, 105, 103, 105, 110], [120, 44, 32, 104, 116, 116, 112, 115, 58, 47, 47, 97]⟩] O1 Z hZ hh (szd_one _ _ (by decide) (by decide)).1 (by decide) (szd_one _ _ (by decide) (by decide)).2 (of_decide_eq_true mn_11) h13.1.1.1 h13.1.1.2 (fun _ => ⟨h13.1.2, h13.2⟩))
 have HT0 := hid (fun (Z : World) (hZ : Gd Z) => timed15_any (.slice none 0 0) [] O1 Z hZ (hd_nil Z) (fun h hh => by simp at hh) (by decide) (by decide) (of_decide_eq_true mn_12) h13.1.1.1 h13.1.1.2 (fun _ => ⟨h13.1.2, h13.2⟩))
 rw [h9] at HT1
 rw [h10] at HT0
 have HSn := hid (fun (Z : World) (hZ : Gd Z) => site15_any O1 (.slice none 0 0) [] Z hZ (ul_nil Z) HS1.out)
 rw [show wd15 (rk15 O1 (([] : List (Adr × Value)).map (·.1))) = wd15 0 from rfl] at HSn
 have HCo := hid (fun w => corp15_any (⟨#[83, 97, 109, 101, 45, 79, 114, 105, 103, 105, 110]⟩ : ByteArray) w)
 have Hh3 := hid h3
 have Hh4 := hid h4
 have Hh5 := hid h5
 have Hh6 := hid h6
 have Hh7 := hid h7
 have Hh8 := hid h8
 obtain ⟨S0, hS0⟩ : ∃ S, wd15 0 = S := ⟨_, rfl⟩
 obtain ⟨S2, hS2⟩ : ∃ S, wd15 2 = S := ⟨_, rfl⟩
 rw [hS0] at HSn
 have t0 : (S0.toList == [115, 97, 109, 101, 45, 111, 114, 105, 103, 105, 110]) = true := by rw [← hS0, Lib.toList_data]; decide
 have t2 : (S2.toList == [99, 114, 111, 115, 115, 45, 115, 105, 116, 101]) = true := by rw [← hS2, Lib.toList_data]; decide
 have HS2e := hid hS2
 clear hg h3 h4 h5 h6 h7 h8 h9 h10 h13 hS0 hS2
 go_enter Tryz.func3, Tryz.ntmps3
 go_wp2_with fail
 go_loopw [1] (fun v1 wr => ∃ x : Int, -1 ≤ x ∧ x ≤ 9 ∧ v1 = .int .i64 x ∧ Below w.heap.size w wr) (fun v1 _ => (9 - intOf v1).toNat)
 case atStart => exact ⟨-1, by omega, by omega, rfl, Below.refl _ _⟩
 case round =>
  obtain ⟨x, hx1, hx9, rfl, hbr⟩ := hrel
  have HBr := hid hbr
  clear hbr
  by_cases hlt : x < 9
  ·have HMo := hid (fun w => mode15_any x w)
   have HMr := hid (fun w => rmode15_any x w)
   have HDe := hid (fun w => dest15_any x w)
   have HDr := hid (fun w => rdest15_any x w)
   generalize modS x = M at HMo HMr
   generalize desS x = D at HDe HDr
   go_wp2_with (first | (go_at_call 12; refine (HMo.out _).mono ?_; rintro e wz ⟨rfl, hwz⟩; rw [← hwz]; clear hwz) | (go_at_call 13; refine (HMr.out _).mono ?_; rintro e wz ⟨rfl, hwz⟩; rw [← hwz]; clear hwz) | (go_at_call 14; refine (HDe.out _).mono ?_; rintro e wz ⟨rfl, hwz⟩; rw [← hwz]; clear hwz) | (go_at_call 15; refine (HDr.out _).mono ?_; rintro e wz ⟨rfl, hwz⟩; rw [← hwz]; clear hwz))
   go_roundw
   case rel =>
    first
     | exact ⟨x + 1, by omega, by omega, by go_num, HBr.out⟩
     | ((repeat apply Exists.intro); refine ⟨?_, rfl⟩; exact ⟨x + 1, by omega, by omega, by go_num, HBr.out⟩)
     | ((repeat apply Exists.intro); exact ⟨⟨x + 1, by omega, by omega, by go_num, HBr.out⟩, rfl⟩)
   case measure => simp [intOf]; omega
  ·have hlt' : decide (x < 9) = false := by rw [decide_eq_false_iff_not]; exact hlt
   obtain ⟨W1, hW1⟩ : ∃ W, W = wr := ⟨_, rfl⟩
   subst hW1
   go_wp2_with fail
   refine (HU.out _ _ (tx_lit W1 [(⟨#[104, 116, 116, 112, 115, 58, 47, 47, 98, 47]⟩ : ByteArray), (⟨#[104, 116, 116, 112, 58, 47, 47, 97, 47]⟩ : ByteArray)] 2 rfl (by decide))).mono ?_
   rintro e w3 ⟨bv, Pb, rfl, hmb, hulb, hb3⟩
   obtain ⟨ba, bc, rfl⟩ := ul_form hulb hmb (k := 2) rfl
   obtain ⟨bg, bo, pv, rfl, hrg, hpt, htr⟩ := ul_head hulb hmb
   have HB3 := hid (below2 HBr.out (below2 ((Below.refl _ W1).alloc (Nat.le_refl _) _) hb3))
   have hPl : Pb.length = 2 := by
    have h := congrArg List.length hmb
    rw [List.length_map] at h
    exact h
   have hbc : 2 ≤ bc ∧ bc ≤ 9223372036854775807 := by
    obtain ⟨a', c', e', h1, h2, _⟩ := hulb
    injection e' with _ e1 e2
    rw [e2]
    unfold maxLen at h2
    exact ⟨by omega, by omega⟩
   have hbc1 : (1 : Int) ≤ (bc : Int) := by omega
   obtain ⟨da, dn, dc, rfl⟩ := path_sl hpt
   obtain ⟨d0, d1, d2, d3, d4, d5, d6, d8, d9, d10, d11, hxd⟩ := adr_cells A da dn dc
   have hvd : adrVal A (.slice da dn dc) = .agg #[.string d0, .string d1, .string d2, .string d3, .bool d4, .int .i64 d5, .bool d6, .slice da dn dc, .string d8, .string d9, .bool d10, .bool d11] := by unfold adrVal; rw [hxd]
   have HRb := hid (show ∀ Z, Below w3.heap.size w3 Z → Z.rangeAt bg bo [.string d0, .string d1, .string d2, .string d3, .bool d4, .int .i64 d5, .bool d6, .slice da dn dc, .string d8, .string d9, .bool d10, .bool d11] from fun Z hZ => by
    have := range_kept hrg hZ
    rw [hxd] at this
    exact this)
   have HSh := hid (fun (v : Value) (Z : World) (hZ : Below w3.heap.size w3 Z) (hh : HdAt Z v [⟨tCorp, [83, 97, 109, 101, 45, 79, 114, 105, 103, 105, 110]⟩]) => shares15_any v [⟨tCorp, [83, 97, 109, 101, 45, 79, 114, 105, 103, 105, 110]⟩] O1 A (.slice da dn dc) Z (HG.out.kept (below2 HB3.out hZ)) hh (szd_one _ _ (by decide) (by decide)).1 (by decide) (szd_one _ _ (by decide) (by decide)).2 (hpt.kept hZ) htr HS1.out)
   have HSh0 := hid (fun (Z : World) (hZ : Below w3.heap.size w3 Z) => shares15_any (.slice none 0 0) [] O1 A (.slice da dn dc) Z (HG.out.kept (below2 HB3.out hZ)) (hd_nil Z) (fun h hh => by simp at hh) (by decide) (by decide) (hpt.kept hZ) htr HS1.out)
   rw [hvd, Hh3.out] at HSh
   rw [hvd, Hh4.out] at HSh0
   have HSt := hid (fun (Z : World) (hZ : Below w3.heap.size w3 Z) => site15_any O2 (.slice (some ⟨bg, bo, none⟩) 2 bc) Pb Z (HG.out.kept (below2 HB3.out hZ)) (hulb.kept hZ) HS2.out)
   rw [hmb, Hh5.out, HS2e.out] at HSt
   have HHe := hid (fun (Z : World) (hZ : Below w3.heap.size w3 Z) => headers15_any O2 (.slice (some ⟨bg, bo, none⟩) 2 bc) Pb 1 1 Z (HG.out.kept (below2 HB3.out hZ)) (hulb.kept hZ) HS2.out)
   rw [hmb, hdr_no Hh6.out] at HHe
   have HH1 := hid (fun (Z : World) (hZ : Below w3.heap.size w3 Z) => headers15_any O2 (.slice (some ⟨bg, bo, none⟩) 1 bc) (Pb.take 1) 3 5 Z (HG.out.kept (below2 HB3.out hZ)) ((hulb.take 1 (by omega)).kept hZ) HS2.out)
   rw [List.map_take, hmb, show [A, C].take 1 = [A] from rfl, hdr_yes15 Hh7.out, Hh8.out, mn_14] at HH1
   unfold HdrPost at HHe HH1
   have HQ0 := hid ((Below.refl w3.heap.size w3).drew)
   clear hmb hulb hb3 hrg hpt htr hxd hvd hPl
   go_upto_region 9 with fail
   refine wp_region_held_drew (S := (fun wx => Below w3.heap.size w3 wx)) (by kernel_rfl) HQ0.out (fun hHeld => ?_)
   refine wpAnyH_to (fuel' := 5) (listed' := #[false, false, false, false, false]) rfl rfl ?_
   refine' wpAnyH_take (i := 1) (oi := ⟨some 26, _, _, _, _, _⟩) (v := _) rfl (by kernel_rfl) (by kernel_rfl) (by kernel_rfl) (fun _ _ _ h => h) (Or.inl ⟨by kernel_rfl, ?hyn1⟩) (by assumption) ?restn1
   case hyn1 => (intro wx hSw; (try dsimp only at hSw); go_simp; first | done | with_reducible rfl)
   (try simp only [Act.put, List.setIfInBounds_toArray, List.set_cons_zero, List.set_cons_succ])
   refine' wpAnyH_take (i := 2) (oi := ⟨some 27, _, _, _, _, _⟩) (v := _) rfl (by kernel_rfl) (by kernel_rfl) (by kernel_rfl) (fun _ _ _ h => h) (Or.inl ⟨by kernel_rfl, ?hyn2⟩) (by assumption) ?restn2
   case hyn2 => (intro wx hSw; (try dsimp only at hSw); go_simp; first | done | with_reducible rfl)
   (try simp only [Act.put, List.setIfInBounds_toArray, List.set_cons_zero, List.set_cons_succ])
   refine wpAnyH_ready (rs := [0]) (by kernel_rfl) (by simp) ?_
   refine AllReadyH.cons rfl (fun K9 hK => ?_) AllReadyH.nil
   rw [if_pos (by kernel_rfl)]
   go_simp
   go_wp2_with (go_at_call 18; refine (HO2.out _).mono ?_; rintro e w11 ⟨rfl, hba⟩)
   have HQ11 := hid (below2 HQ0.out hba)
   clear hba
   refine hK.out _ _ HQ11.out (fun hHeld2 => ?_)
   clear hK K9 hHeld
   rename _ => hHeld
   refine wpAnyH_ready (rs := [3]) (by kernel_rfl) (by simp) ?_
   refine AllReadyH.cons rfl (fun K9 hK => ?_) AllReadyH.nil
   rw [if_pos (by kernel_rfl)]
   go_simp
   go_wp2_with (go_at_call 17; refine (HH1.out _ HQ11.out).mono ?_; rintro e w12 ⟨hv, rfl, hown, hba⟩)
   have HQ12 := hid (below2 HQ11.out hba)
   have HHd := hid (own_hd hown)
   clear hown
   clear hba
   refine hK.out _ _ HQ12.out (fun hHeld2 => ?_)
   clear hK K9 hHeld
   rename _ => hHeld
   refine' wpAnyH_take (i := 4) (oi := ⟨some 3, _, _, _, _, _⟩) (v := _) rfl (by kernel_rfl) (by kernel_rfl) (by kernel_rfl) (fun _ _ _ h => h) (Or.inl ⟨by kernel_rfl, ?hyn3⟩) (by assumption) ?restn3
   case hyn3 => (intro wx hSw; (try dsimp only at hSw); go_simp; first | done | with_reducible rfl)
   (try simp only [Act.put, List.setIfInBounds_toArray, List.set_cons_zero, List.set_cons_succ])
   refine wpAnyH_done (by kernel_rfl) ?_ _
   obtain ⟨ha, hc, rfl, _, _, _⟩ := HHd.out.view
   have HB12 := hid (below2 HB3.out HQ12.out)
   have HQ0x := hid ((Below.refl w12.heap.size w12).drew)
   have HRc := hid (fun (Z : World) (hZ : Below w12.heap.size w12 Z) => HRb.out Z (below2 HQ12.out hZ))
   have HSf := hid (fun (v : Value) (Z : World) (hZ : Below w12.heap.size w12 Z) (hh : HdAt Z v [⟨tCorp, [83, 97, 109, 101, 45, 79, 114, 105, 103, 105, 110]⟩]) => HSh.out v Z (below2 HQ12.out hZ) hh)
   have HSf0 := hid (fun (Z : World) (hZ : Below w12.heap.size w12 Z) => HSh0.out Z (below2 HQ12.out hZ))
   have HSu := hid (fun (Z : World) (hZ : Below w12.heap.size w12 Z) => HSt.out Z (below2 HQ12.out hZ))
   have HHf := hid (fun (Z : World) (hZ : Below w12.heap.size w12 Z) => HHe.out Z (below2 HQ12.out hZ))
   have HGz := hid (fun (Z : World) (hZ : Below w12.heap.size w12 Z) => HG.out.kept (below2 HB12.out hZ))
   clear HRb HSh HSh0 HSt HHe HH1
   go_upto_region 10 with fail
   refine wp_region_held_drew (S := (fun wx => Below w12.heap.size w12 wx)) (by kernel_rfl) HQ0x.out (fun hHeld => ?_)
   refine wpAnyH_to (fuel' := 54) (listed' := #[false, false, false, false, false, false, false, false, false, false, false, false, false, false, false, false, false, false, false, false, false, false, false, false, false, false, false, false, false, false, false, false, false, false, false, false, false, false, false, false, false, false, false, false, false, false, false, false, false, false, false, false, false, false]) rfl rfl ?_
   refine' wpAnyH_take (i := 2) (oi := ⟨some 31, _, _, _, _, _⟩) (v := _) rfl (by kernel_rfl) (by kernel_rfl) (by kernel_rfl) (fun _ _ _ h => h) (Or.inl ⟨by kernel_rfl, ?hyp1⟩) (by assumption) ?restp1
   case hyp1 => (intro wx hSw; (try dsimp only at hSw); go_simp; first | done | with_reducible rfl)
   (try simp only [Act.put, List.setIfInBounds_toArray, List.set_cons_zero, List.set_cons_succ])
   refine' wpAnyH_take (i := 3) (oi := ⟨some 32, _, _, _, _, _⟩) (v := _) rfl (by kernel_rfl) (by kernel_rfl) (by kernel_rfl) (fun _ _ _ h => h) (Or.inl ⟨by kernel_rfl, ?hyp2⟩) (by assumption) ?restp2
   case hyp2 => (intro wx hSw; (try dsimp only at hSw); go_simp; first | done | with_reducible rfl)
   (try simp only [Act.put, List.setIfInBounds_toArray, List.set_cons_zero, List.set_cons_succ])
   refine wpAnyH_take (i := 4) (oi := ⟨some 33, _, _, _, _, _⟩) rfl (by kernel_rfl) (by kernel_rfl) (by kernel_rfl) (fun _ _ _ h => h) (yieldsIf_load_mid (by kernel_rfl) 34 (.tmp 32) rfl (bg) bo rfl [.string d0, .string d1, .string d2, .string d3, .bool d4, .int .i64 d5, .bool d6, .slice da dn dc, .string d8, .string d9, .bool d10, .bool d11] _ HRc.out Tryz.underlying34 rfl sizeU) (by assumption) ?_
   (try simp only [Act.put, List.setIfInBounds_toArray, List.set_cons_zero, List.set_cons_succ])
   refine wpAnyH_ready (rs := [0]) (by kernel_rfl) (by simp) ?_
   refine AllReadyH.cons rfl (fun K9 hK => ?_) AllReadyH.nil
   rw [if_pos (by kernel_rfl)]
   go_simp
   go_wp2_with (go_at_call 20; refine (HCo.out _).mono ?_; rintro e w13 ⟨kv, rfl, ⟨kg, rfl⟩, hkv, hba⟩)
   have HQ13 := hid (below2 HQ0x.out hba)
   have HKv := hid hkv
   clear hkv
   clear hba
   refine hK.out _ _ HQ13.out (fun hHeld2 => ?_)
   clear hK K9 hHeld
   rename _ => hHeld
   refine wpAnyH_ready (rs := [1]) (by kernel_rfl) (by simp) ?_
   refine AllReadyH.cons rfl (fun K9 hK => ?_) AllReadyH.nil
   rw [if_pos (by kernel_rfl)]
   go_simp
   go_wp2_with (go_at_call 18; refine (HO1.out _).mono ?_; rintro e w14 ⟨rfl, hba⟩)
   have HQ14 := hid (below2 HQ13.out hba)
   have HKw := hid (HKv.out.kept hba)
   clear hba
   refine hK.out _ _ HQ14.out (fun hHeld2 => ?_)
   clear hK K9 hHeld
   rename _ => hHeld
   refine wpAnyH_ready (rs := [5]) (by kernel_rfl) (by simp) ?_
   refine AllReadyH.cons rfl (fun K9 hK => ?_) AllReadyH.nil
   rw [if_pos (by kernel_rfl)]
   go_simp
   go_wp2_with (go_at_call 19; refine (HSf.out _ _ HQ14.out HKw.out).mono ?_; rintro e w15 ⟨rfl, hba⟩)
   have HQ15 := hid (below2 HQ14.out hba)
   clear hba
   refine hK.out _ _ HQ15.out (fun hHeld2 => ?_)
   clear hK K9 hHeld
   rename _ => hHeld
   refine' wpAnyH_take (i := 6) (oi := ⟨some 35, _, _, _, _, _⟩) (v := _) rfl (by kernel_rfl) (by kernel_rfl) (by kernel_rfl) (fun _ _ _ h => h) (Or.inl ⟨by kernel_rfl, ?hyp3⟩) (by assumption) ?restp3
   case hyp3 => (intro wx hSw; (try dsimp only at hSw); go_simp; first | done | with_reducible rfl)
   (try simp only [Act.put, List.setIfInBounds_toArray, List.set_cons_zero, List.set_cons_succ])
   refine' wpAnyH_take (i := 8) (oi := ⟨some 37, _, _, _, _, _⟩) (v := _) rfl (by kernel_rfl) (by kernel_rfl) (by kernel_rfl) (fun _ _ _ h => h) (Or.inl ⟨by kernel_rfl, ?hyp4⟩) (by assumption) ?restp4
   case hyp4 => (intro wx hSw; (try dsimp only at hSw); go_simp; first | done | with_reducible rfl)
   (try simp only [Act.put, List.setIfInBounds_toArray, List.set_cons_zero, List.set_cons_succ])
   refine' wpAnyH_take (i := 9) (oi := ⟨some 38, _, _, _, _, _⟩) (v := _) rfl (by kernel_rfl) (by kernel_rfl) (by kernel_rfl) (fun _ _ _ h => h) (Or.inl ⟨by kernel_rfl, ?hyp5⟩) (by assumption) ?restp5
   case hyp5 => (intro wx hSw; (try dsimp only at hSw); go_simp; first | done | with_reducible rfl)
   (try simp only [Act.put, List.setIfInBounds_toArray, List.set_cons_zero, List.set_cons_succ])
   refine wpAnyH_take (i := 10) (oi := ⟨some 39, _, _, _, _, _⟩) rfl (by kernel_rfl) (by kernel_rfl) (by kernel_rfl) (fun _ _ _ h => h) (yieldsIf_load_mid (by kernel_rfl) 34 (.tmp 38) rfl (bg) bo rfl [.string d0, .string d1, .string d2, .string d3, .bool d4, .int .i64 d5, .bool d6, .slice da dn dc, .string d8, .string d9, .bool d10, .bool d11] _ HRc.out Tryz.underlying34 rfl sizeU) (by assumption) ?_
   (try simp only [Act.put, List.setIfInBounds_toArray, List.set_cons_zero, List.set_cons_succ])
   refine wpAnyH_ready (rs := [7]) (by kernel_rfl) (by simp) ?_
   refine AllReadyH.cons rfl (fun K9 hK => ?_) AllReadyH.nil
   rw [if_pos (by kernel_rfl)]
   go_simp
   go_wp2_with (go_at_call 18; refine (HO1.out _).mono ?_; rintro e w16 ⟨rfl, hba⟩)
   have HQ16 := hid (below2 HQ15.out hba)
   clear hba
   refine hK.out _ _ HQ16.out (fun hHeld2 => ?_)
   clear hK K9 hHeld
   rename _ => hHeld
   refine wpAnyH_ready (rs := [11]) (by kernel_rfl) (by simp) ?_
   refine AllReadyH.cons rfl (fun K9 hK => ?_) AllReadyH.nil
   rw [if_pos (by kernel_rfl)]
   go_simp
   go_wp2_with (go_at_call 19; refine (HSf0.out _ HQ16.out).mono ?_; rintro e w17 ⟨rfl, hba⟩)
   have HQ17 := hid (below2 HQ16.out hba)
   clear hba
   refine hK.out _ _ HQ17.out (fun hHeld2 => ?_)
   clear hK K9 hHeld
   rename _ => hHeld
   refine' wpAnyH_take (i := 12) (oi := ⟨some 41, _, _, _, _, _⟩) (v := _) rfl (by kernel_rfl) (by kernel_rfl) (by kernel_rfl) (fun _ _ _ h => h) (Or.inl ⟨by kernel_rfl, ?hyp6⟩) (by assumption) ?restp6
   case hyp6 => (intro wx hSw; (try dsimp only at hSw); go_simp; first | done | with_reducible rfl)
   (try simp only [Act.put, List.setIfInBounds_toArray, List.set_cons_zero, List.set_cons_succ])
   refine' wpAnyH_take (i := 13) (oi := ⟨some 42, _, _, _, _, _⟩) (v := _) rfl (by kernel_rfl) (by kernel_rfl) (by kernel_rfl) (fun _ _ _ h => h) (Or.inl ⟨by kernel_rfl, ?hyp7⟩) (by assumption) ?restp7
   case hyp7 => (intro wx hSw; (try dsimp only at hSw); go_simp; first | done | with_reducible rfl)
   (try simp only [Act.put, List.setIfInBounds_toArray, List.set_cons_zero, List.set_cons_succ])
   refine wpAnyH_ready (rs := [14]) (by kernel_rfl) (by simp) ?_
   refine AllReadyH.cons rfl (fun K9 hK => ?_) AllReadyH.nil
   rw [if_pos (by kernel_rfl)]
   go_simp
   go_wp2_with (go_at_call 18; refine (HO1.out _).mono ?_; rintro e w18 ⟨rfl, hba⟩)
   have HQ18 := hid (below2 HQ17.out hba)
   clear hba
   refine hK.out _ _ HQ18.out (fun hHeld2 => ?_)
   clear hK K9 hHeld
   rename _ => hHeld
   refine wpAnyH_ready (rs := [15]) (by kernel_rfl) (by simp) ?_
   refine AllReadyH.cons rfl (fun K9 hK => ?_) AllReadyH.nil
   rw [if_pos (by kernel_rfl)]
   go_simp
   go_wp2_with (go_at_call 21; refine (HSn.out _ (HGz.out _ HQ18.out)).mono ?_; rintro e w19 ⟨rfl, hba⟩)
   have HQ19 := hid (below2 HQ18.out hba)
   clear hba
   refine hK.out _ _ HQ19.out (fun hHeld2 => ?_)
   clear hK K9 hHeld
   rename _ => hHeld
   refine' wpAnyH_take (i := 16) (oi := ⟨some 45, _, _, _, _, _⟩) (v := _) rfl (by kernel_rfl) (by kernel_rfl) (by kernel_rfl) (fun _ _ _ h => h) (Or.inl ⟨by kernel_rfl, ?hyp8⟩) (by assumption) ?restp8
   case hyp8 => (intro wx hSw; (try dsimp only at hSw); go_simp; first | done | with_reducible rfl)
   (try simp only [Act.put, List.setIfInBounds_toArray, List.set_cons_zero, List.set_cons_succ])
   refine' wpAnyH_take (i := 17) (oi := ⟨some 46, _, _, _, _, _⟩) (v := _) rfl (by kernel_rfl) (by kernel_rfl) (by kernel_rfl) (fun _ _ _ h => h) (Or.inl ⟨by kernel_rfl, ?hyp9⟩) (by assumption) ?restp9
   case hyp9 => (intro wx hSw; (try dsimp only at hSw); go_simp; first | done | with_reducible rfl)
   (try simp only [Act.put, List.setIfInBounds_toArray, List.set_cons_zero, List.set_cons_succ])
   refine' wpAnyH_take (i := 18) (oi := ⟨some 47, _, _, _, _, _⟩) (v := _) rfl (by kernel_rfl) (by kernel_rfl) (by kernel_rfl) (fun _ _ _ h => h) (Or.inl ⟨by kernel_rfl, ?hyp10⟩) (by assumption) ?restp10
   case hyp10 => (intro wx hSw; (try dsimp only at hSw); go_simp; first | done | with_reducible rfl)
   (try simp only [Act.put, List.setIfInBounds_toArray, List.set_cons_zero, List.set_cons_succ])
   refine' wpAnyH_take (i := 20) (oi := ⟨some 49, _, _, _, _, _⟩) (v := _) rfl (by kernel_rfl) (by kernel_rfl) (by kernel_rfl) (fun _ _ _ h => h) (Or.inl ⟨by kernel_rfl, ?hyp11⟩) (by assumption) ?restp11
   case hyp11 => (intro wx hSw; (try dsimp only at hSw); go_simp; first | done | with_reducible rfl)
   (try simp only [Act.put, List.setIfInBounds_toArray, List.set_cons_zero, List.set_cons_succ])
   refine wpAnyH_ready (rs := [19]) (by kernel_rfl) (by simp) ?_
   refine AllReadyH.cons rfl (fun K9 hK => ?_) AllReadyH.nil
   rw [if_pos (by kernel_rfl)]
   go_simp
   go_wp2_with (go_at_call 18; refine (HO2.out _).mono ?_; rintro e w20 ⟨rfl, hba⟩)
   have HQ20 := hid (below2 HQ19.out hba)
   clear hba
   refine hK.out _ _ HQ20.out (fun hHeld2 => ?_)
   clear hK K9 hHeld
   rename _ => hHeld
   refine wpAnyH_ready (rs := [21]) (by kernel_rfl) (by simp) ?_
   refine AllReadyH.cons rfl (fun K9 hK => ?_) AllReadyH.nil
   rw [if_pos (by kernel_rfl)]
   go_simp
   go_wp2_with (go_at_call 21; refine (HSu.out _ HQ20.out).mono ?_; rintro e w21 ⟨rfl, hba⟩)
   have HQ21 := hid (below2 HQ20.out hba)
   clear hba
   refine hK.out _ _ HQ21.out (fun hHeld2 => ?_)
   clear hK K9 hHeld
   rename _ => hHeld
   refine' wpAnyH_take (i := 22) (oi := ⟨some 51, _, _, _, _, _⟩) (v := _) rfl (by kernel_rfl) (by kernel_rfl) (by kernel_rfl) (fun _ _ _ h => h) (Or.inl ⟨by kernel_rfl, ?hyp12⟩) (by assumption) ?restp12
   case hyp12 => (intro wx hSw; (try dsimp only at hSw); go_simp; first | done | with_reducible rfl)
   (try simp only [Act.put, List.setIfInBounds_toArray, List.set_cons_zero, List.set_cons_succ])
   refine' wpAnyH_take (i := 23) (oi := ⟨some 52, _, _, _, _, _⟩) (v := _) rfl (by kernel_rfl) (by kernel_rfl) (by kernel_rfl) (fun _ _ _ h => h) (Or.inl ⟨by kernel_rfl, ?hyp13⟩) (by assumption) ?restp13
   case hyp13 => (intro wx hSw; (try dsimp only at hSw); go_simp; first | done | with_reducible rfl)
   (try simp only [Act.put, List.setIfInBounds_toArray, List.set_cons_zero, List.set_cons_succ])
   refine' wpAnyH_take (i := 24) (oi := ⟨some 53, _, _, _, _, _⟩) (v := _) rfl (by kernel_rfl) (by kernel_rfl) (by kernel_rfl) (fun _ _ _ h => h) (Or.inl ⟨by kernel_rfl, ?hyp14⟩) (by assumption) ?restp14
   case hyp14 => (intro wx hSw; (try dsimp only at hSw); go_simp; first | done | with_reducible rfl)
   (try simp only [Act.put, List.setIfInBounds_toArray, List.set_cons_zero, List.set_cons_succ])
   refine' wpAnyH_take (i := 26) (oi := ⟨some 55, _, _, _, _, _⟩) (v := _) rfl (by kernel_rfl) (by kernel_rfl) (by kernel_rfl) (fun _ _ _ h => h) (Or.inl ⟨by kernel_rfl, ?hyp15⟩) (by assumption) ?restp15
   case hyp15 => (intro wx hSw; (try dsimp only at hSw); go_simp; first | done | with_reducible rfl)
   (try simp only [Act.put, List.setIfInBounds_toArray, List.set_cons_zero, List.set_cons_succ])
   refine wpAnyH_ready (rs := [25]) (by kernel_rfl) (by simp) ?_
   refine AllReadyH.cons rfl (fun K9 hK => ?_) AllReadyH.nil
   rw [if_pos (by kernel_rfl)]
   go_simp
   go_wp2_with (go_at_call 18; refine (HO2.out _).mono ?_; rintro e w22 ⟨rfl, hba⟩)
   have HQ22 := hid (below2 HQ21.out hba)
   clear hba
   refine hK.out _ _ HQ22.out (fun hHeld2 => ?_)
   clear hK K9 hHeld
   rename _ => hHeld
   refine wpAnyH_ready (rs := [27]) (by kernel_rfl) (by simp) ?_
   refine AllReadyH.cons rfl (fun K9 hK => ?_) AllReadyH.nil
   rw [if_pos (by kernel_rfl)]
   go_simp
   go_wp2_with (go_at_call 17; refine (HHf.out _ HQ22.out).mono ?_; rintro e w23 ⟨nv, rfl, hown, hba⟩)
   have HQ23 := hid (below2 HQ22.out hba)
   obtain ⟨na, nc, rfl⟩ : ∃ a c, nv = .slice a 0 c := by
    rcases hown.2 with ⟨h1, _⟩ | ⟨g, cap, cur, h1, _⟩
    ·exact ⟨_, _, h1⟩
    ·exact ⟨_, _, h1⟩
   clear hown
   clear hba
   refine hK.out _ _ HQ23.out (fun hHeld2 => ?_)
   clear hK K9 hHeld
   rename _ => hHeld
   refine' wpAnyH_take (i := 28) (oi := ⟨some 57, _, _, _, _, _⟩) (v := _) rfl (by kernel_rfl) (by kernel_rfl) (by kernel_rfl) (fun _ _ _ h => h) (Or.inl ⟨by kernel_rfl, ?hyp16⟩) (by assumption) ?restp16
   case hyp16 => (intro wx hSw; (try dsimp only at hSw); go_simp; first | done | with_reducible rfl)
   (try simp only [Act.put, List.setIfInBounds_toArray, List.set_cons_zero, List.set_cons_succ])
   refine' wpAnyH_take (i := 29) (oi := ⟨some 58, _, _, _, _, _⟩) (v := _) rfl (by kernel_rfl) (by kernel_rfl) (by kernel_rfl) (fun _ _ _ h => h) (Or.inl ⟨by kernel_rfl, ?hyp17⟩) (by assumption) ?restp17
   case hyp17 => (intro wx hSw; (try dsimp only at hSw); go_simp; first | done | with_reducible rfl)
   (try simp only [Act.put, List.setIfInBounds_toArray, List.set_cons_zero, List.set_cons_succ])
   refine' wpAnyH_take (i := 30) (oi := ⟨some 59, _, _, _, _, _⟩) (v := _) rfl (by kernel_rfl) (by kernel_rfl) (by kernel_rfl) (fun _ _ _ h => h) (Or.inl ⟨by kernel_rfl, ?hyp18⟩) (by assumption) ?restp18
   case hyp18 => (intro wx hSw; (try dsimp only at hSw); go_simp; first | done | with_reducible rfl)
   (try simp only [Act.put, List.setIfInBounds_toArray, List.set_cons_zero, List.set_cons_succ])
   refine' wpAnyH_take (i := 31) (oi := ⟨some 60, _, _, _, _, _⟩) (v := _) rfl (by kernel_rfl) (by kernel_rfl) (by kernel_rfl) (fun _ _ _ h => h) (Or.inl ⟨by kernel_rfl, ?hyp19⟩) (by assumption) ?restp19
   case hyp19 => (intro wx hSw; (try dsimp only at hSw); go_simp; first | done | with_reducible rfl)
   (try simp only [Act.put, List.setIfInBounds_toArray, List.set_cons_zero, List.set_cons_succ])
   refine' wpAnyH_take (i := 32) (oi := ⟨some 61, _, _, _, _, _⟩) (v := _) rfl (by kernel_rfl) (by kernel_rfl) (by kernel_rfl) (fun _ _ _ h => h) (Or.inl ⟨by kernel_rfl, ?hyp20⟩) (by assumption) ?restp20
   case hyp20 => (intro wx hSw; (try dsimp only at hSw); go_simp; first | done | with_reducible rfl)
   (try simp only [Act.put, List.setIfInBounds_toArray, List.set_cons_zero, List.set_cons_succ])
   refine' wpAnyH_take (i := 33) (oi := ⟨some 62, _, _, _, _, _⟩) (v := _) rfl (by kernel_rfl) (by kernel_rfl) (by kernel_rfl) (fun _ _ _ h => h) (Or.inl ⟨by kernel_rfl, ?hyp21⟩) (by assumption) ?restp21
   case hyp21 => (intro wx hSw; (try dsimp only at hSw); go_simp; first | done | with_reducible rfl)
   (try simp only [Act.put, List.setIfInBounds_toArray, List.set_cons_zero, List.set_cons_succ])
   refine' wpAnyH_take (i := 34) (oi := ⟨some 63, _, _, _, _, _⟩) (v := _) rfl (by kernel_rfl) (by kernel_rfl) (by kernel_rfl) (fun _ _ _ h => h) (Or.inl ⟨by kernel_rfl, ?hyp22⟩) (by assumption) ?restp22
   case hyp22 => (intro wx hSw; (try dsimp only at hSw); go_simp; first | done | with_reducible rfl)
   (try simp only [Act.put, List.setIfInBounds_toArray, List.set_cons_zero, List.set_cons_succ])
   refine' wpAnyH_take (i := 35) (oi := ⟨some 64, _, _, _, _, _⟩) (v := _) rfl (by kernel_rfl) (by kernel_rfl) (by kernel_rfl) (fun _ _ _ h => h) (Or.inl ⟨by kernel_rfl, ?hyp23⟩) (by assumption) ?restp23
   case hyp23 => (intro wx hSw; (try dsimp only at hSw); go_simp; first | done | with_reducible rfl)
   (try simp only [Act.put, List.setIfInBounds_toArray, List.set_cons_zero, List.set_cons_succ])
   refine wpAnyH_ready (rs := [36]) (by kernel_rfl) (by simp) ?_
   refine AllReadyH.cons rfl (fun K9 hK => ?_) AllReadyH.nil
   rw [if_pos (by kernel_rfl)]
   go_simp
   have hbx := (Below.refl _ w23).alloc (Nat.le_refl _) (.cells #[.string ⟨#[115, 101, 99, 45, 102, 101, 116, 99, 104, 45, 115, 105, 116, 101]⟩, .string ⟨#[115, 97, 109, 101, 45, 111, 114, 105, 103, 105, 110]⟩, .string ⟨#[115, 101, 99, 45, 102, 101, 116, 99, 104, 45, 109, 111, 100, 101]⟩, .string ⟨#[99, 111, 114, 115]⟩, .string ⟨#[115, 101, 99, 45, 102, 101, 116, 99, 104, 45, 100, 101, 115, 116]⟩, .string ⟨#[102, 111, 110, 116]⟩] 38)
   have HQ24 := hid (below2 HQ23.out hbx)
   have HLi := hid (show HdAt (w23.alloc (.cells #[.string ⟨#[115, 101, 99, 45, 102, 101, 116, 99, 104, 45, 115, 105, 116, 101]⟩, .string ⟨#[115, 97, 109, 101, 45, 111, 114, 105, 103, 105, 110]⟩, .string ⟨#[115, 101, 99, 45, 102, 101, 116, 99, 104, 45, 109, 111, 100, 101]⟩, .string ⟨#[99, 111, 114, 115]⟩, .string ⟨#[115, 101, 99, 45, 102, 101, 116, 99, 104, 45, 100, 101, 115, 116]⟩, .string ⟨#[102, 111, 110, 116]⟩] 38)) (.slice (some ⟨w23.heap.size, 0, none⟩) 3 3) [⟨nSite, [115, 97, 109, 101, 45, 111, 114, 105, 103, 105, 110]⟩, ⟨nMode, [99, 111, 114, 115]⟩, ⟨nDest, [102, 111, 110, 116]⟩] from hd_lit w23 [⟨nSite, [115, 97, 109, 101, 45, 111, 114, 105, 103, 105, 110]⟩, ⟨nMode, [99, 111, 114, 115]⟩, ⟨nDest, [102, 111, 110, 116]⟩] 3 rfl (by decide))
   have HSa := hid (sameH_any _ _ [⟨nSite, [115, 97, 109, 101, 45, 111, 114, 105, 103, 105, 110]⟩, ⟨nMode, [99, 111, 114, 115]⟩, ⟨nDest, [102, 111, 110, 116]⟩] [⟨nSite, [115, 97, 109, 101, 45, 111, 114, 105, 103, 105, 110]⟩, ⟨nMode, [99, 111, 114, 115]⟩, ⟨nDest, [102, 111, 110, 116]⟩] _ (HHd.out.kept HQ24.out) HLi.out (by decide) (by decide))
   simp only [eq_self, decide_true] at HSa
   clear hbx HLi
   refine hK.out _ _ HQ24.out (fun hHeld2 => ?_)
   clear hK K9 hHeld
   rename _ => hHeld
   refine wpAnyH_ready (rs := [37]) (by kernel_rfl) (by simp) ?_
   refine AllReadyH.cons rfl (fun K9 hK => ?_) AllReadyH.nil
   rw [if_pos (by kernel_rfl)]
   go_simp
   go_wp2_with (go_at_call 22; refine (HSa.out).mono ?_; rintro e w25 ⟨rfl, hba⟩)
   have HQ25 := hid (below2 HQ24.out hba)
   clear hba
   refine hK.out _ _ HQ25.out (fun hHeld2 => ?_)
   clear hK K9 hHeld
   rename _ => hHeld
   refine' wpAnyH_take (i := 38) (oi := ⟨some 67, _, _, _, _, _⟩) (v := _) rfl (by kernel_rfl) (by kernel_rfl) (by kernel_rfl) (fun _ _ _ h => h) (Or.inl ⟨by kernel_rfl, ?hyp24⟩) (by assumption) ?restp24
   case hyp24 => (intro wx hSw; (try dsimp only at hSw); go_simp; first | done | with_reducible rfl)
   (try simp only [Act.put, List.setIfInBounds_toArray, List.set_cons_zero, List.set_cons_succ])
   refine' wpAnyH_take (i := 39) (oi := ⟨some 68, _, _, _, _, _⟩) (v := _) rfl (by kernel_rfl) (by kernel_rfl) (by kernel_rfl) (fun _ _ _ h => h) (Or.inl ⟨by kernel_rfl, ?hyp25⟩) (by assumption) ?restp25
   case hyp25 => (intro wx hSw; (try dsimp only at hSw); go_simp; first | done | with_reducible rfl)
   (try simp only [Act.put, List.setIfInBounds_toArray, List.set_cons_zero, List.set_cons_succ])
   refine' wpAnyH_take (i := 40) (oi := ⟨some 69, _, _, _, _, _⟩) (v := _) rfl (by kernel_rfl) (by kernel_rfl) (by kernel_rfl) (fun _ _ _ h => h) (Or.inl ⟨by kernel_rfl, ?hyp26⟩) (by assumption) ?restp26
   case hyp26 => (intro wx hSw; (try dsimp only at hSw); go_simp; first | done | with_reducible rfl)
   (try simp only [Act.put, List.setIfInBounds_toArray, List.set_cons_zero, List.set_cons_succ])
   refine wpAnyH_ready (rs := [41, 42]) (by kernel_rfl) (by simp) ?_
   refine AllReadyH.cons rfl (fun K9 hK => ?_) (AllReadyH.cons rfl (fun K9 hK => ?_) AllReadyH.nil)
   ·as_aux_lemma =>
     rw [if_pos (by kernel_rfl)]
     go_simp
     have hbx := (Below.refl _ w25).alloc (Nat.le_refl _) (.cells #[.string ⟨#[84, 105, 109, 105, 110, 103, 45, 65, 108, 108, 111, 119, 45, 79, 114, 105, 103, 105, 110]⟩, .string ⟨#[120, 44, 32, 104, 116, 116, 112, 115, 58, 47, 47, 97]⟩] 38)
     have HQ26 := hid (below2 HQ25.out hbx)
     have HTb := hid (show HdAt (w25.alloc (.cells #[.string ⟨#[84, 105, 109, 105, 110, 103, 45, 65, 108, 108, 111, 119, 45, 79, 114, 105, 103, 105, 110]⟩, .string ⟨#[120, 44, 32, 104, 116, 116, 112, 115, 58, 47, 47, 97]⟩] 38)) (.slice (some ⟨w25.heap.size, 0, none⟩) 1 1) [⟨[84, 105, 109, 105, 110, 103, 45, 65, 108, 108, 111, 119, 45, 79, 114, 105, 103, 105, 110], [120, 44, 32, 104, 116, 116, 112, 115, 58, 47, 47, 97]⟩] from hd_lit w25 [⟨[84, 105, 109, 105, 110, 103, 45, 65, 108, 108, 111, 119, 45, 79, 114, 105, 103, 105, 110], [120, 44, 32, 104, 116, 116, 112, 115, 58, 47, 47, 97]⟩] 1 rfl (by decide))
     clear hbx
     refine hK.out _ _ HQ26.out (fun hHeld2 => ?_)
     clear hK K9 hHeld
     rename _ => hHeld
     refine wpAnyH_ready (rs := [42]) (by kernel_rfl) (by simp) ?_
     refine AllReadyH.cons rfl (fun K9 hK => ?_) AllReadyH.nil
     rw [if_pos (by kernel_rfl)]
     go_simp
     go_wp2_with (go_at_call 18; refine (HO1.out _).mono ?_; rintro e w27 ⟨rfl, hba⟩)
     have HQ27 := hid (below2 HQ26.out hba)
     have HTc := hid (HTb.out.kept hba)
     clear HTb
     rename _ => HTb
     clear hba
     refine hK.out _ _ HQ27.out (fun hHeld2 => ?_)
     clear hK K9 hHeld
     rename _ => hHeld
     refine wpAnyH_ready (rs := [43]) (by kernel_rfl) (by simp) ?_
     refine AllReadyH.cons rfl (fun K9 hK => ?_) AllReadyH.nil
     rw [if_pos (by kernel_rfl)]
     go_simp
     go_wp2_with (go_at_call 23; refine (HT1.out _ _ (HGz.out _ HQ27.out) HTb.out).mono ?_; rintro e w28 ⟨rfl, hba⟩)
     have HQ28 := hid (below2 HQ27.out hba)
     clear hba
     refine hK.out _ _ HQ28.out (fun hHeld2 => ?_)
     clear hK K9 hHeld
     rename _ => hHeld
     refine' wpAnyH_take (i := 44) (oi := ⟨some 73, _, _, _, _, _⟩) (v := _) rfl (by kernel_rfl) (by kernel_rfl) (by kernel_rfl) (fun _ _ _ h => h) (Or.inl ⟨by kernel_rfl, ?hypa1⟩) (by assumption) ?restpa1
     case hypa1 => (intro wx hSw; (try dsimp only at hSw); go_simp; first | done | with_reducible rfl)
     (try simp only [Act.put, List.setIfInBounds_toArray, List.set_cons_zero, List.set_cons_succ])
     refine' wpAnyH_take (i := 45) (oi := ⟨some 74, _, _, _, _, _⟩) (v := _) rfl (by kernel_rfl) (by kernel_rfl) (by kernel_rfl) (fun _ _ _ h => h) (Or.inl ⟨by kernel_rfl, ?hypa2⟩) (by assumption) ?restpa2
     case hypa2 => (intro wx hSw; (try dsimp only at hSw); go_simp; first | done | with_reducible rfl)
     (try simp only [Act.put, List.setIfInBounds_toArray, List.set_cons_zero, List.set_cons_succ])
     refine wpAnyH_ready (rs := [46]) (by kernel_rfl) (by simp) ?_
     refine AllReadyH.cons rfl (fun K9 hK => ?_) AllReadyH.nil
     rw [if_pos (by kernel_rfl)]
     go_simp
     go_wp2_with (go_at_call 18; refine (HO1.out _).mono ?_; rintro e w29 ⟨rfl, hba⟩)
     have HQ29 := hid (below2 HQ28.out hba)
     clear hba
     refine hK.out _ _ HQ29.out (fun hHeld2 => ?_)
     clear hK K9 hHeld
     rename _ => hHeld
     refine wpAnyH_ready (rs := [47]) (by kernel_rfl) (by simp) ?_
     refine AllReadyH.cons rfl (fun K9 hK => ?_) AllReadyH.nil
     rw [if_pos (by kernel_rfl)]
     go_simp
     go_wp2_with (go_at_call 23; refine (HT0.out _ (HGz.out _ HQ29.out)).mono ?_; rintro e w30 ⟨rfl, hba⟩)
     have HQ30 := hid (below2 HQ29.out hba)
     clear hba
     refine hK.out _ _ HQ30.out (fun hHeld2 => ?_)
     clear hK K9 hHeld
     rename _ => hHeld
     refine' wpAnyH_take (i := 48) (oi := ⟨some 77, _, _, _, _, _⟩) (v := _) rfl (by kernel_rfl) (by kernel_rfl) (by kernel_rfl) (fun _ _ _ h => h) (Or.inl ⟨by kernel_rfl, ?hypa3⟩) (by assumption) ?restpa3
     case hypa3 => (intro wx hSw; (try dsimp only at hSw); go_simp; first | done | with_reducible rfl)
     (try simp only [Act.put, List.setIfInBounds_toArray, List.set_cons_zero, List.set_cons_succ])
     refine' wpAnyH_take (i := 49) (oi := ⟨some 78, _, _, _, _, _⟩) (v := _) rfl (by kernel_rfl) (by kernel_rfl) (by kernel_rfl) (fun _ _ _ h => h) (Or.inl ⟨by kernel_rfl, ?hypa4⟩) (by assumption) ?restpa4
     case hypa4 => (intro wx hSw; (try dsimp only at hSw); go_simp; first | done | with_reducible rfl)
     (try simp only [Act.put, List.setIfInBounds_toArray, List.set_cons_zero, List.set_cons_succ])
     refine' wpAnyH_take (i := 50) (oi := ⟨some 79, _, _, _, _, _⟩) (v := _) rfl (by kernel_rfl) (by kernel_rfl) (by kernel_rfl) (fun _ _ _ h => h) (Or.inl ⟨by kernel_rfl, ?hypa5⟩) (by assumption) ?restpa5
     case hypa5 => (intro wx hSw; (try dsimp only at hSw); go_simp; first | done | with_reducible rfl)
     (try simp only [Act.put, List.setIfInBounds_toArray, List.set_cons_zero, List.set_cons_succ])
     have HKn := hid (known15_any w30 (HGz.out _ HQ30.out))
     refine wpAnyH_ready (rs := [51]) (by kernel_rfl) (by simp) ?_
     refine AllReadyH.cons rfl (fun K9 hK => ?_) AllReadyH.nil
     rw [if_pos (by kernel_rfl)]
     go_simp
     go_wp2_with (go_at_call 24; refine (HKn.out).mono ?_; rintro e w31 ⟨rfl, hba⟩)
     have HQ31 := hid (below2 HQ30.out hba)
     clear hba
     refine hK.out _ _ HQ31.out (fun hHeld2 => ?_)
     clear hK K9 hHeld
     rename _ => hHeld
     refine' wpAnyH_take (i := 52) (oi := ⟨some 81, _, _, _, _, _⟩) (v := _) rfl (by kernel_rfl) (by kernel_rfl) (by kernel_rfl) (fun _ _ _ h => h) (Or.inl ⟨by kernel_rfl, ?hypa6⟩) (by assumption) ?restpa6
     case hypa6 => (intro wx hSw; (try dsimp only at hSw); go_simp; first | done | with_reducible rfl)
     (try simp only [Act.put, List.setIfInBounds_toArray, List.set_cons_zero, List.set_cons_succ])
     refine' wpAnyH_take (i := 53) (oi := ⟨some 0, _, _, _, _, _⟩) (v := _) rfl (by kernel_rfl) (by kernel_rfl) (by kernel_rfl) (fun _ _ _ h => h) (Or.inl ⟨by kernel_rfl, ?hypa7⟩) (by assumption) ?restpa7
     case hypa7 => (intro wx hSw; (try dsimp only at hSw); go_simp; first | done | with_reducible rfl)
     (try simp only [Act.put, List.setIfInBounds_toArray, List.set_cons_zero, List.set_cons_succ])
     refine wpAnyH_done (by kernel_rfl) ?_ _
     go_wp2
     go_ret
     exact ⟨rfl, below2 HB12.out HQ31.out⟩
   ·as_aux_lemma =>
     rw [if_pos (by kernel_rfl)]
     go_simp
     go_wp2_with (go_at_call 18; refine (HO1.out _).mono ?_; rintro e w26 ⟨rfl, hba⟩)
     have HQ26 := hid (below2 HQ25.out hba)
     clear hba
     refine hK.out _ _ HQ26.out (fun hHeld2 => ?_)
     clear hK K9 hHeld
     rename _ => hHeld
     refine wpAnyH_ready (rs := [41]) (by kernel_rfl) (by simp) ?_
     refine AllReadyH.cons rfl (fun K9 hK => ?_) AllReadyH.nil
     rw [if_pos (by kernel_rfl)]
     go_simp
     have hbx := (Below.refl _ w26).alloc (Nat.le_refl _) (.cells #[.string ⟨#[84, 105, 109, 105, 110, 103, 45, 65, 108, 108, 111, 119, 45, 79, 114, 105, 103, 105, 110]⟩, .string ⟨#[120, 44, 32, 104, 116, 116, 112, 115, 58, 47, 47, 97]⟩] 38)
     have HQ27 := hid (below2 HQ26.out hbx)
     have HTb := hid (show HdAt (w26.alloc (.cells #[.string ⟨#[84, 105, 109, 105, 110, 103, 45, 65, 108, 108, 111, 119, 45, 79, 114, 105, 103, 105, 110]⟩, .string ⟨#[120, 44, 32, 104, 116, 116, 112, 115, 58, 47, 47, 97]⟩] 38)) (.slice (some ⟨w26.heap.size, 0, none⟩) 1 1) [⟨[84, 105, 109, 105, 110, 103, 45, 65, 108, 108, 111, 119, 45, 79, 114, 105, 103, 105, 110], [120, 44, 32, 104, 116, 116, 112, 115, 58, 47, 47, 97]⟩] from hd_lit w26 [⟨[84, 105, 109, 105, 110, 103, 45, 65, 108, 108, 111, 119, 45, 79, 114, 105, 103, 105, 110], [120, 44, 32, 104, 116, 116, 112, 115, 58, 47, 47, 97]⟩] 1 rfl (by decide))
     clear hbx
     refine hK.out _ _ HQ27.out (fun hHeld2 => ?_)
     clear hK K9 hHeld
     rename _ => hHeld
     refine wpAnyH_ready (rs := [43]) (by kernel_rfl) (by simp) ?_
     refine AllReadyH.cons rfl (fun K9 hK => ?_) AllReadyH.nil
     rw [if_pos (by kernel_rfl)]
     go_simp
     go_wp2_with (go_at_call 23; refine (HT1.out _ _ (HGz.out _ HQ27.out) HTb.out).mono ?_; rintro e w28 ⟨rfl, hba⟩)
     have HQ28 := hid (below2 HQ27.out hba)
     clear hba
     refine hK.out _ _ HQ28.out (fun hHeld2 => ?_)
     clear hK K9 hHeld
     rename _ => hHeld
     refine' wpAnyH_take (i := 44) (oi := ⟨some 73, _, _, _, _, _⟩) (v := _) rfl (by kernel_rfl) (by kernel_rfl) (by kernel_rfl) (fun _ _ _ h => h) (Or.inl ⟨by kernel_rfl, ?hypb1⟩) (by assumption) ?restpb1
     case hypb1 => (intro wx hSw; (try dsimp only at hSw); go_simp; first | done | with_reducible rfl)
     (try simp only [Act.put, List.setIfInBounds_toArray, List.set_cons_zero, List.set_cons_succ])
     refine' wpAnyH_take (i := 45) (oi := ⟨some 74, _, _, _, _, _⟩) (v := _) rfl (by kernel_rfl) (by kernel_rfl) (by kernel_rfl) (fun _ _ _ h => h) (Or.inl ⟨by kernel_rfl, ?hypb2⟩) (by assumption) ?restpb2
     case hypb2 => (intro wx hSw; (try dsimp only at hSw); go_simp; first | done | with_reducible rfl)
     (try simp only [Act.put, List.setIfInBounds_toArray, List.set_cons_zero, List.set_cons_succ])
     refine wpAnyH_ready (rs := [46]) (by kernel_rfl) (by simp) ?_
     refine AllReadyH.cons rfl (fun K9 hK => ?_) AllReadyH.nil
     rw [if_pos (by kernel_rfl)]
     go_simp
     go_wp2_with (go_at_call 18; refine (HO1.out _).mono ?_; rintro e w29 ⟨rfl, hba⟩)
     have HQ29 := hid (below2 HQ28.out hba)
     clear hba
     refine hK.out _ _ HQ29.out (fun hHeld2 => ?_)
     clear hK K9 hHeld
     rename _ => hHeld
     refine wpAnyH_ready (rs := [47]) (by kernel_rfl) (by simp) ?_
     refine AllReadyH.cons rfl (fun K9 hK => ?_) AllReadyH.nil
     rw [if_pos (by kernel_rfl)]
     go_simp
     go_wp2_with (go_at_call 23; refine (HT0.out _ (HGz.out _ HQ29.out)).mono ?_; rintro e w30 ⟨rfl, hba⟩)
     have HQ30 := hid (below2 HQ29.out hba)
     clear hba
     refine hK.out _ _ HQ30.out (fun hHeld2 => ?_)
     clear hK K9 hHeld
     rename _ => hHeld
     refine' wpAnyH_take (i := 48) (oi := ⟨some 77, _, _, _, _, _⟩) (v := _) rfl (by kernel_rfl) (by kernel_rfl) (by kernel_rfl) (fun _ _ _ h => h) (Or.inl ⟨by kernel_rfl, ?hypb3⟩) (by assumption) ?restpb3
     case hypb3 => (intro wx hSw; (try dsimp only at hSw); go_simp; first | done | with_reducible rfl)
     (try simp only [Act.put, List.setIfInBounds_toArray, List.set_cons_zero, List.set_cons_succ])
     refine' wpAnyH_take (i := 49) (oi := ⟨some 78, _, _, _, _, _⟩) (v := _) rfl (by kernel_rfl) (by kernel_rfl) (by kernel_rfl) (fun _ _ _ h => h) (Or.inl ⟨by kernel_rfl, ?hypb4⟩) (by assumption) ?restpb4
     case hypb4 => (intro wx hSw; (try dsimp only at hSw); go_simp; first | done | with_reducible rfl)
     (try simp only [Act.put, List.setIfInBounds_toArray, List.set_cons_zero, List.set_cons_succ])
     refine' wpAnyH_take (i := 50) (oi := ⟨some 79, _, _, _, _, _⟩) (v := _) rfl (by kernel_rfl) (by kernel_rfl) (by kernel_rfl) (fun _ _ _ h => h) (Or.inl ⟨by kernel_rfl, ?hypb5⟩) (by assumption) ?restpb5
     case hypb5 => (intro wx hSw; (try dsimp only at hSw); go_simp; first | done | with_reducible rfl)
     (try simp only [Act.put, List.setIfInBounds_toArray, List.set_cons_zero, List.set_cons_succ])
     have HKn := hid (known15_any w30 (HGz.out _ HQ30.out))
     refine wpAnyH_ready (rs := [51]) (by kernel_rfl) (by simp) ?_
     refine AllReadyH.cons rfl (fun K9 hK => ?_) AllReadyH.nil
     rw [if_pos (by kernel_rfl)]
     go_simp
     go_wp2_with (go_at_call 24; refine (HKn.out).mono ?_; rintro e w31 ⟨rfl, hba⟩)
     have HQ31 := hid (below2 HQ30.out hba)
     clear hba
     refine hK.out _ _ HQ31.out (fun hHeld2 => ?_)
     clear hK K9 hHeld
     rename _ => hHeld
     refine' wpAnyH_take (i := 52) (oi := ⟨some 81, _, _, _, _, _⟩) (v := _) rfl (by kernel_rfl) (by kernel_rfl) (by kernel_rfl) (fun _ _ _ h => h) (Or.inl ⟨by kernel_rfl, ?hypb6⟩) (by assumption) ?restpb6
     case hypb6 => (intro wx hSw; (try dsimp only at hSw); go_simp; first | done | with_reducible rfl)
     (try simp only [Act.put, List.setIfInBounds_toArray, List.set_cons_zero, List.set_cons_succ])
     refine' wpAnyH_take (i := 53) (oi := ⟨some 0, _, _, _, _, _⟩) (v := _) rfl (by kernel_rfl) (by kernel_rfl) (by kernel_rfl) (fun _ _ _ h => h) (Or.inl ⟨by kernel_rfl, ?hypb7⟩) (by assumption) ?restpb7
     case hypb7 => (intro wx hSw; (try dsimp only at hSw); go_simp; first | done | with_reducible rfl)
     (try simp only [Act.put, List.setIfInBounds_toArray, List.set_cons_zero, List.set_cons_succ])
     refine wpAnyH_done (by kernel_rfl) ?_ _
     go_wp2
     go_ret
     exact ⟨rfl, below2 HB12.out HQ31.out⟩

end Go.Proofs.YtgoefeaopegdoaaGreatDoor
