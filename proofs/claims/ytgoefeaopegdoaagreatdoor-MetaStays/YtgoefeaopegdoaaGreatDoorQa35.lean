/-
  Walks and plain facts that this claim leans on, put together out of 3 texts: Ezh, Dz, Etx.
-/
import Derived.Test.YtgoefeaopegdoaaGreatDoorProg
import Derived.Test.YtgoefeaopegdoaaGreatDoorTie
import Derived.Test.YtgoefeaopegdoaaGreatDoorQa1
import Derived.Test.YtgoefeaopegdoaaGreatDoorQa2
import Derived.Test.YtgoefeaopegdoaaGreatDoorQa3
import Derived.Test.YtgoefeaopegdoaaGreatDoorQa6
import Derived.Test.YtgoefeaopegdoaaGreatDoorQa7
import Derived.Test.YtgoefeaopegdoaaGreatDoorQa8
import Derived.Test.YtgoefeaopegdoaaGreatDoorQa12
import Derived.Test.YtgoefeaopegdoaaGreatDoorQa18
import Derived.Test.YtgoefeaopegdoaaGreatDoorQa22
import Derived.Test.YtgoefeaopegdoaaGreatDoorQa24
import Derived.Test.YtgoefeaopegdoaaGreatDoorQa25
import Derived.Test.YtgoefeaopegdoaaGreatDoorQa26
import Derived.Test.YtgoefeaopegdoaaGreatDoorQa27
import Derived.Test.YtgoefeaopegdoaaGreatDoorQa31
import Derived.Test.YtgoefeaopegdoaaGreatDoorQa32
import Derived.Test.YtgoefeaopegdoaaGreatDoorQa33
import Derived.Test.YtgoefeaopegdoaaGreatDoorQa34
import Derived.Deep.Cut
import Derived.Deep.QuietTactic
import Derived.BigQuiet
import Derived.BigRegion
import Derived.Deep.RegionHeld
import Derived.Deep.CutRange
import Derived.Laws.AppendOwn
import Derived.Lib.IndexMore
import Derived.Lib.Join
import Derived.Lib.LastIndexByte
import Derived.WalkKit
import Derived.Lib.Strings
import Derived.Lib.UnsafeStr
import Derived.Laws.IdiomStrings
import Derived.Laws.BitsAllLaws
import Derived.Lib.Bytealg
import Derived.Lib.BufferMore
import Derived.Lib.BufferRead
import Derived.Lib.RuneBytes
import Derived.Laws.RangeAny
import Derived.LoopN
import Derived.RegionTactic
import Derived.Deep.RegionWith
import Derived.OwnWalk
import Derived.Deep.RegionLaw
import Derived.Laws.OwnMore
import Derived.Deep.LoopGhost
import Derived.Shelf.Strings.Builder1
import Derived.Shelf.Strings.Builder2
import Derived.Shelf.Strings.OnBuilder
import Derived.Shelf.Strings.Trim
import Derived.Shelf.Small.Utf8
import Derived.Shelf.Small.Bits
import Derived.Shelf.Small.Strs
import Derived.Shelf.Small.Wraps
import Derived.Shelf.Strings.BuilderF
import Derived.Shelf.Strings.BuilderK
import Derived.Shelf.Strings.BuilderRune
import Derived.Shelf.Utf8.AppendRune
import Derived.Shelf.Utf8.AppendRunePlain
import Derived.Shelf.Strings.Builder2Cap
import Derived.Shelf.Strconv.Itoa0
import Derived.Shelf.Strconv.Itoa1
import Derived.Shelf.LaysM
import Derived.Shelf.Strconv.Itoa2
import Derived.Shelf.Strconv.Itoa3
import Derived.Shelf.Strings.Search1
import Derived.Shelf.Strings.Search2
import Derived.Shelf.Strings.Search3
import Derived.Shelf.Strings.Cut
import Derived.Shelf.Strings.Count
import Derived.Shelf.Strings.Shaped
import Derived.Shelf.Strings.LastIndex
import Derived.Shelf.Strings.Prefix
import Derived.Shelf.Strings.Split
import Derived.Shelf.Strings.Replace
import Derived.Shelf.Strings.Runes
import Derived.Shelf.Strings.IndexAny
import Derived.Shelf.Strings.AsciiSet
import Derived.Shelf.Strings.IndexAnyAll
import Derived.Shelf.Unicode.DecodeSlow
import Derived.Ground.Names2Prog
import Derived.Shelf.Slices.Clone
import Derived.Shelf.Slices.In.SortNone
import Derived.Ground.SlgnProg
import Derived.Shelf.SlicesE.Clone
import Derived.Laws.AppendOwnNone
import Derived.Scope
import Derived.ScopeJumps
import Derived.WalkMore
import Derived.Lib.IndexAny
import Derived.Lib.Replace
import Derived.Lib.TrimByte
import Derived.Lib.ItoaNum
import Derived.Lib.DecodeN
import Derived.Lib.OthersKept
import Derived.Laws.BytesString
import Derived.Deep.WholeRow
import Derived.Lib.AppendStr
import Derived.WalkSpells
import Derived.WalkLawsBesides
import Derived.Lib.AppendIntMem
import Derived.Lib.SmallJoins
import Derived.WalkSmall
import Derived.Laws.CopyOwn
import Derived.Laws.ResultCell
import Derived.Deep.MidRow
import Derived.Lib.FrozenHead2
import Derived.Lib.Builder
import Derived.Lib.SlTrimSet
import Derived.Below
import Derived.Shelf.Strings.SlTrimAscii
import Derived.Laws.Runes
import Derived.Stop.LaidErr
import Derived.LaidMore
set_option linter.unusedSimpArgs false
set_option linter.unusedVariables false

namespace Go.Proofs.YtgoefeaopegdoaaGreatDoor
open Go.RowKit

theorem rk15_mono (o : Org) (L : List Adr) (k : Nat) : rk15 o (L.take k) ≤ rk15 o (L.take (k + 1)) := by
 have h := rk15_take o (L.take (k + 1)) k
 rw [List.take_take, Nat.min_eq_left (by omega)] at h
 exact h

theorem ofT_site (s : List UInt8) : SiteOk (ofT s) := by
 unfold ofT
 exact siteU15 (tr_read _)

set_option maxHeartbeats 16000000 in
set_option maxRecDepth 100000 in
theorem metaStays_walk (s : ByteArray) (v : Value) (L0 : List (List UInt8)) (w : World) (hs : s.size ≤ 140737488351232) (hv : TxAt w v L0) (hz : ∀ x ∈ L0, x.length ≤ maxLen) (hg : Gd w) :
  Calls Tryz.prog 4 #[.string s, v] w fun e w' => e = .returned (.bool true) ∧ Below w.heap.size w w' := by
 have HO := hid (of15_at s _ rfl (by omega))
 have hS := ofT_site s.data.toList
 generalize ofT s.data.toList = O at HO hS
 obtain ⟨oS, oH, oP, oQ, hvo, hxo⟩ := org_named (O)
 rw [hvo] at HO
 have HUr := hid (fun (Z : World) (hZ : Below w.heap.size w Z) => urls15_any v L0 Z (hv.kept hZ) hz)
 unfold UrPost at HUr
 obtain ⟨L, hL⟩ : ∃ L, urlsV L0 = L := ⟨_, rfl⟩
 have hL8 : L.length ≤ 8 := by rw [← hL]; unfold urlsV; exact urlsT_le _ _
 rw [hL] at HUr
 obtain ⟨n, hn⟩ : ∃ n, L.length = n := ⟨_, rfl⟩
 rw [hn] at hL8
 have HLn := hid hn
 have HG := hid hg
 have HS := hid hS
 have HXo := hid hxo
 have HVo := hid hvo
 have HMo := hid (rk15_mono O L)
 have HLe := hid (fun k => rk15_le O (L.take k))
 obtain ⟨a9, c9, rfl, _, _, _⟩ := hv.view
 clear hg hv hz hS hxo hvo hL hn
 go_enter Tryz.func4, Tryz.ntmps4
 go_wp2_with fail
 refine (HO.out _).mono ?_
 rintro e w1 ⟨rfl, hb1⟩
 obtain ⟨W2, hW2⟩ : ∃ X, (w1.alloc (.cells #[.string oS, .string oH, .int .i64 oP, .bool oQ] 28)) = X := ⟨_, rfl⟩
 have hbW2 : Below w1.heap.size w1 W2 := by rw [← hW2]; exact (Below.refl _ w1).alloc (Nat.le_refl _) _
 have hsW2 : W2.heap.size = w1.heap.size + 1 := by rw [← hW2]; simp
 have hOW2 : OrgIn W2 w1.heap.size (O) := by
  unfold OrgIn
  rw [HXo.out, ← hW2]
  exact heap_alloc_new w1 _
 have HB2 := hid (below2 hb1 hbW2)
 have HO2 := hid hOW2
 clear hb1 hbW2 hOW2 hsW2
 go_wp2_with fail
 refine (HUr.out _ HB2.out).mono ?_
 rintro e w3 ⟨mv, P, rfl, hm, hul, hb3⟩
 obtain ⟨ma, mc, rfl⟩ := ul_form hul hm (k := n) HLn.out
 have hnc : n ≤ mc ∧ mc ≤ maxLen := by
  obtain ⟨a', c', e', h1, h2, _⟩ := hul
  injection e' with _ e1 e2
  rw [e2]
  exact ⟨by omega, h2⟩
 have hmc : mc ≤ 9223372036854775807 := by have := hnc.2; unfold maxLen at this; omega
 have HB3 := hid (below2 HB2.out hb3)
 have HO3 := hid (HO2.out.kept hb3)
 have HPl := hid (show P.length = n by
  have h := congrArg List.length hm
  rw [List.length_map] at h
  rw [h]
  exact HLn.out)
 have HSi := hid (fun (k : Nat) (hk : k ≤ n) (Z : World) (hZ : Below w3.heap.size w3 Z) => by
  have h := site15_any O (.slice ma k mc) (P.take k) Z (HG.out.kept (below2 HB3.out hZ)) ((hul.take k (by have := HPl.out; omega)).kept hZ) HS.out
  rw [List.map_take, hm, HVo.out] at h
  exact h)
 have hnone : ma = none → n = 0 ∨ 0 < n := fun _ => by omega
 clear hnone hb3 hm hul
 go_wp2_with fail
 go_loopw [7, 8] (fun v7 v8 wr => ∃ (k r : Nat), k ≤ n + 1 ∧ r ≤ 2 ∧ v8 = .int .i64 k ∧ v7 = .int .i64 r ∧ Hid (r ≤ rk15 O (L.take k) ∧ Below w3.heap.size w3 wr)) (fun _ v8 _ => n + 1 - (intOf v8).toNat)
 case atStart => exact ⟨0, 0, by omega, by omega, rfl, rfl, Nat.zero_le _, Below.refl _ _⟩
 case round =>
  obtain ⟨k, r, hk, hr2, rfl, rfl, HR⟩ := hrel
  by_cases hlt : k ≤ n
  ·have hin : (k : Int) ≤ (n : Int) := by omega
   have hkc : (k : Int) ≤ (mc : Int) := by have := hnc.1; omega
   have hkc' : k ≤ mc := by have := hnc.1; omega
   have HSk := hid (fun (Z : World) (hZ : Below wr.heap.size wr Z) => HSi.out k hlt Z (below2 HR.out.2 hZ))
   have hle := HLe.out k
   have HMk := hid (HMo.out k)
   have hrc := HR.out.1
   obtain ⟨c, hc⟩ : ∃ c, rk15 O (L.take k) = c := ⟨_, rfl⟩
   rw [hc] at HSk hle hrc HMk
   obtain ⟨S, hS⟩ : ∃ S, wd15 c = S := ⟨_, rfl⟩
   rw [hS] at HSk
   have HO4 := hid (HO3.out.kept HR.out.2)
   have HRo := hid (show ∀ Z, Below wr.heap.size wr Z → Z.rangeAt (w1.heap.size) 0 [.string oS, .string oH, .int .i64 oP, .bool oQ] from fun Z hZ => by
    have := range_row (show Z.heap[w1.heap.size]? = some (.cells (orgCells (O)).toArray 28 (0, 0)) from HO4.out.kept hZ)
    rw [HXo.out] at this
    exact this)
   have HQ0 := hid ((Below.refl wr.heap.size wr).drew)
   have HBr := hid HR.out.2
   have hcr : decide ((c : Int) < (r : Int)) = false := by rw [decide_eq_false_iff_not]; omega
   have hcr' : ¬ ((c : Int) < (r : Int)) := by omega
   clear hc HR HO4
   go_upto_region 8 with fail
   refine wp_region_held_drew (S := (fun wx => Below wr.heap.size wr wx)) (by kernel_rfl) HQ0.out (fun hHeld => ?_)
   refine wpAnyH_to (fuel' := 5) (listed' := #[false, false, false, false, false]) rfl rfl ?_
   refine wpAnyH_take (i := 0) (oi := ⟨some 20, _, _, _, _, _⟩) rfl (by kernel_rfl) (by kernel_rfl) (by kernel_rfl) (fun _ _ _ h => h) (yieldsIf_load_mid (by kernel_rfl) 28 (.tmp 5) rfl (w1.heap.size) 0 rfl [.string oS, .string oH, .int .i64 oP, .bool oQ] _ HRo.out Tryz.underlying28 rfl sizeO) (by assumption) ?_
   (try simp only [Act.put, List.setIfInBounds_toArray, List.set_cons_zero, List.set_cons_succ])
   refine' wpAnyH_take (i := 1) (oi := ⟨some 21, _, _, _, _, _⟩) (v := _) rfl (by kernel_rfl) (by kernel_rfl) (by kernel_rfl) (fun _ _ _ h => h) (Or.inl ⟨by kernel_rfl, ?hym1⟩) (by assumption) ?restm1
   case hym1 => (intro wx hSw; (try dsimp only at hSw); go_simp; first | done | with_reducible rfl)
   (try simp only [Act.put, List.setIfInBounds_toArray, List.set_cons_zero, List.set_cons_succ])
   refine' wpAnyH_take (i := 2) (oi := ⟨some 22, _, _, _, _, _⟩) (v := _) rfl (by kernel_rfl) (by kernel_rfl) (by kernel_rfl) (fun _ _ _ h => h) (Or.inl ⟨by kernel_rfl, ?hym2⟩) (by assumption) ?restm2
   case hym2 => (intro wx hSw; (try dsimp only at hSw); go_simp; first | done | with_reducible rfl)
   (try simp only [Act.put, List.setIfInBounds_toArray, List.set_cons_zero, List.set_cons_succ])
   refine' wpAnyH_take (i := 3) (oi := ⟨some 23, _, _, _, _, _⟩) (v := _) rfl (by kernel_rfl) (by kernel_rfl) (by kernel_rfl) (fun _ _ _ h => h) (Or.inl ⟨by kernel_rfl, ?hym3⟩) (by assumption) ?restm3
   case hym3 => (intro wx hSw; (try dsimp only at hSw); go_simp; first | done | with_reducible rfl)
   (try simp only [Act.put, List.setIfInBounds_toArray, List.set_cons_zero, List.set_cons_succ])
   refine wpAnyH_ready (rs := [4]) (by kernel_rfl) (by simp) ?_
   refine AllReadyH.cons rfl (fun K9 hK => ?_) AllReadyH.nil
   rw [if_pos (by kernel_rfl)]
   go_simp
   go_wp2_with (go_at_call 21; refine (HSk.out _ HQ0.out).mono ?_; rintro e w4 ⟨rfl, hba⟩)
   have HQ4 := hid (below2 HQ0.out hba)
   clear hba
   refine hK.out _ _ HQ4.out (fun hHeld2 => ?_)
   clear hK K9 hHeld
   rename _ => hHeld
   refine wpAnyH_done (by kernel_rfl) ?_ _
   have HR5 := hid (show c ≤ rk15 O (L.take (k + 1)) ∧ Below w3.heap.size w3 w4 from ⟨HMk.out, below2 HBr.out HQ4.out⟩)
   have hc3 : c = 0 ∨ c = 1 ∨ c = 2 := by omega
   rcases hc3 with rfl | rfl | rfl
   ·have t1 : (S.toList == [115, 97, 109, 101, 45, 115, 105, 116, 101]) = false := by rw [← hS, Lib.toList_data]; decide
    have t2 : (S.toList == [99, 114, 111, 115, 115, 45, 115, 105, 116, 101]) = false := by rw [← hS, Lib.toList_data]; decide
    have t3 : (S.toList == [115, 97, 109, 101, 45, 111, 114, 105, 103, 105, 110]) = true := by rw [← hS, Lib.toList_data]; decide
    clear hS
    go_wp2_with fail
    go_roundw
    case rel =>
     first
      | exact ⟨k + 1, 0, by omega, by omega, by go_num, by go_num, HR5.out⟩
      | ((repeat apply Exists.intro); refine ⟨?_, rfl⟩; exact ⟨k + 1, 0, by omega, by omega, by go_num, by go_num, HR5.out⟩)
      | ((repeat apply Exists.intro); exact ⟨⟨k + 1, 0, by omega, by omega, by go_num, by go_num, HR5.out⟩, rfl⟩)
    case measure => simp [intOf]; omega
   ·have t1 : (S.toList == [115, 97, 109, 101, 45, 115, 105, 116, 101]) = true := by rw [← hS, Lib.toList_data]; decide
    have t2 : (S.toList == [99, 114, 111, 115, 115, 45, 115, 105, 116, 101]) = false := by rw [← hS, Lib.toList_data]; decide
    have t3 : (S.toList == [115, 97, 109, 101, 45, 111, 114, 105, 103, 105, 110]) = false := by rw [← hS, Lib.toList_data]; decide
    clear hS
    go_wp2_with fail
    go_roundw
    case rel =>
     first
      | exact ⟨k + 1, 1, by omega, by omega, by go_num, by go_num, HR5.out⟩
      | ((repeat apply Exists.intro); refine ⟨?_, rfl⟩; exact ⟨k + 1, 1, by omega, by omega, by go_num, by go_num, HR5.out⟩)
      | ((repeat apply Exists.intro); exact ⟨⟨k + 1, 1, by omega, by omega, by go_num, by go_num, HR5.out⟩, rfl⟩)
    case measure => simp [intOf]; omega
   ·have t1 : (S.toList == [115, 97, 109, 101, 45, 115, 105, 116, 101]) = false := by rw [← hS, Lib.toList_data]; decide
    have t2 : (S.toList == [99, 114, 111, 115, 115, 45, 115, 105, 116, 101]) = true := by rw [← hS, Lib.toList_data]; decide
    have t3 : (S.toList == [115, 97, 109, 101, 45, 111, 114, 105, 103, 105, 110]) = false := by rw [← hS, Lib.toList_data]; decide
    clear hS
    go_wp2_with fail
    go_roundw
    case rel =>
     first
      | exact ⟨k + 1, 2, by omega, by omega, by go_num, by go_num, HR5.out⟩
      | ((repeat apply Exists.intro); refine ⟨?_, rfl⟩; exact ⟨k + 1, 2, by omega, by omega, by go_num, by go_num, HR5.out⟩)
      | ((repeat apply Exists.intro); exact ⟨⟨k + 1, 2, by omega, by omega, by go_num, by go_num, HR5.out⟩, rfl⟩)
    case measure => simp [intOf]; omega
  ·have hin : decide ((k : Int) ≤ (n : Int)) = false := by rw [decide_eq_false_iff_not]; omega
   have HBr := hid (below2 HB3.out HR.out.2)
   have HK := hid (known15_any wr (HG.out.kept HBr.out))
   clear HR
   go_wp2_with fail
   refine HK.out.mono ?_
   rintro e w5 ⟨rfl, hb5⟩
   go_wp2
   go_ret
   exact ⟨rfl, below2 HBr.out hb5⟩

end Go.Proofs.YtgoefeaopegdoaaGreatDoor

namespace Go.Proofs.YtgoefeaopegdoaaGreatDoor
open Go.RowKit

def laid7 : List (String × DataW Unit) := [("math/bits.deBruijn32tab", Rows.laid_math_bits_deBruijn32tab), ("math/bits.deBruijn64tab", Rows.laid_math_bits_deBruijn64tab), ("internal/strconv.uint64pow10", Rows.laid_internal_strconv_uint64pow10), ("unicode/utf8.acceptRanges", Rows.laid_unicode_utf8_acceptRanges), ("unicode/utf8.first", Rows.laid_unicode_utf8_first)]

theorem g5_of_shaped {W : World} (hsh : W.ShapedOpen Tryz.prog) : G5 W := Tryz.laysM145.s1_3 W hsh

theorem gd7_of_laid {W : World} (h : laidMetH Tryz.prog laid7 W) (hsh : W.ShapedOpen Tryz.prog) : Gd W := by
 have h' : laidMet Tryz.prog laid7 W := h
 have h2 := h'.tail
 have h3 := h2.tail
 refine ⟨Tryz.laysM145.s1_3 W hsh, ?_, ?_⟩
 ·exact Lib.tabIs_of_head gPow10 (by kernel_rfl) Tryz.underlying269 Tryz.underlying239 (by kernel_rfl) (by kernel_rfl) h3
 ·exact Lib.tabIs_of_head gDB64 (by kernel_rfl) Tryz.underlying304 Tryz.underlying5 (by kernel_rfl) (by kernel_rfl) h2

theorem ownK : ownKnob Tryz.prog.godebug = none := by kernel_rfl

noncomputable def startW (os : Os) : World :=
 { World.doorLaid Tryz.prog 24 os with heap := (World.doorLaid Tryz.prog 24 os).heap.setIfInBounds 1 (.cells (Pinned.utf8FirstZ.map fun (n : Nat) => Value.int .u8 (n : Int)).toArray 247 (0, 0)) }

theorem door_met (os : Os) (args : Array Value) : laidMetH Tryz.prog laid7 ((startW os).forCall (fun _ _ => 0) ⟨#[], args, []⟩).memory :=
 laidMetH_of_parts3 (fuel := 8) (laidMet_of_run' 8 (by kernel_rfl) (by kernel_rfl)) (by kernel_rfl) (by kernel_rfl)

end Go.Proofs.YtgoefeaopegdoaaGreatDoor

namespace Go.Proofs.YtgoefeaopegdoaaGreatDoor
open Go.RowKit

theorem spot_none15 {w : World} {x : Addr} {v : Value} (h : w.cell? x = some v) : x.spot = none := by
 unfold World.cell? at h
 cases hs : x.spot with
 | none => rfl
 | some y =>
  rw [hs] at h
  split at h
  ·simp at h
  ·cases h

theorem tx_arg {w : World} {x : Addr} {len cap : Nat} {ss : List ByteArray} (hl : len ≤ cap) (hm : cap ≤ maxLen) (hz : ss.length = cap) (hcell : ∀ i, i < ss.length → w.cell? (x.add i) = some (.string (ss.getD i ByteArray.empty))) (hws : ∀ s ∈ ss, s.size ≤ maxLen) :
  ∃ L, TxAt w (.slice (some x) len cap) L ∧ ∀ y ∈ L, y.length ≤ maxLen := by
 have hL : ((ss.take len).map (·.data.toList)).length = len := by simp; omega
 refine ⟨(ss.take len).map (·.data.toList), ⟨some x, cap, by rw [hL], by omega, hm, fun j hj => ?_⟩, fun y hy => ?_⟩
 ·rw [hL] at hj
  have h0 := hcell 0 (by omega)
  have hsp : x.spot = none := spot_none15 (by simpa [Addr.add] using h0)
  refine ⟨x.block, x.off, by rw [← hsp], ?_⟩
  have hc := hcell j (by omega)
  have e : x.add j = ⟨x.block, x.off + j, none⟩ := by
   unfold Addr.add
   split
   ·subst_vars; rw [← hsp]; rfl
   ·rfl
  rw [e] at hc
  rw [hc]
  have hjs : j < ss.length := by omega
  simp [List.getD, hjs]
 ·simp only [List.mem_map] at hy
  obtain ⟨s, hs, rfl⟩ := hy
  have := hws s (List.mem_of_mem_take hs)
  simpa using this

end Go.Proofs.YtgoefeaopegdoaaGreatDoor
