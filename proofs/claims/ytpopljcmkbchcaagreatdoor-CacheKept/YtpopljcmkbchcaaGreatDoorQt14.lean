/-
  Walks and plain facts that this claim leans on, put together out of 1 texts: Efd.
-/
import Derived.Test.YtpopljcmkbchcaaGreatDoorProg
import Derived.Test.YtpopljcmkbchcaaGreatDoorQt1
import Derived.Test.YtpopljcmkbchcaaGreatDoorQt2
import Derived.Test.YtpopljcmkbchcaaGreatDoorQt3
import Derived.Test.YtpopljcmkbchcaaGreatDoorQt4
import Derived.Test.YtpopljcmkbchcaaGreatDoorQt5
import Derived.Test.YtpopljcmkbchcaaGreatDoorQt6
import Derived.BigRegion
import Derived.Deep.RegionHeld
import Derived.Deep.RegionHeldLaw
import Derived.Lib.IndexAny
import Derived.WalkKit
import Derived.Lib.UnsafeStr
import Derived.Lib.BufferRead
import Derived.Lib.RuneBytes
import Derived.Laws.RangeAny
import Derived.Deep.LoopGhost
import Derived.Maps.OwnSet
import Derived.Maps.OwnOps
import Derived.Maps.AppendAt
import Derived.StringKeys
import Derived.BigQuiet
import Derived.Deep.QuietTactic
import Derived.LoopN
import Derived.RegionTactic
import Derived.Deep.RegionLaw
import Derived.Deep.RegionWith
import Derived.WalkSpells
import Derived.WalkLawsBesides
import Derived.Lib.FieldsP
import Derived.Lib.DecodeN
import Derived.Lib.IndexMore
import Derived.Lib.Join
import Derived.Lib.SmallJoins
import Derived.Laws.CopyOwn
import Derived.Laws.ResultCell
import Derived.Deep.MidRow
import Derived.Laws.OwnMore
import Derived.Below
import Derived.WalkSmall
import Derived.Lib.LaidTab
import Derived.Lib.AppendIntMem
import Derived.Laws.AppendOwn
import Derived.Laws.Runes
import Derived.Lib.OthersKept
import Derived.Lib.FrozenHead2
import Derived.Lib.Builder
import Derived.Lib.AppendStr
import Derived.Lib.Replace
import Derived.Shelf.GgClosure.GivesRunes
import Derived.Laws.BitsAll
import Derived.Laws.Shifts
import Derived.Deep.DeepAppendRoom
import Derived.Laws.IdiomStrings
import Derived.Laws.BytesString
import Derived.Laws.CopyRow
import Derived.Sort.OwnSorted
import Derived.Lib.SlicesCompact
import Derived.Deep.CutRange
import Derived.Lib.Strings
import Derived.Laws.BitsAllLaws
import Derived.Lib.Bytealg
import Derived.Lib.BufferMore
import Derived.Shelf.Strings.Builder1
import Derived.Shelf.Strings.Builder2
import Derived.Shelf.Strings.OnBuilder
import Derived.Shelf.Strings.Trim
import Derived.Shelf.Small.Utf8
import Derived.Shelf.Small.Bits
import Derived.Shelf.Small.Strs
import Derived.Shelf.Small.Wraps
import Derived.Shelf.Strings.BuilderF
import Derived.Shelf.Strings.BuilderK
import Derived.Shelf.Strings.BuilderRune
import Derived.Shelf.Utf8.AppendRune
import Derived.Shelf.Utf8.AppendRunePlain
import Derived.Shelf.Strings.Builder2Cap
import Derived.Shelf.Strconv.Itoa0
import Derived.Shelf.Strconv.Itoa1
import Derived.Shelf.LaysM
import Derived.Shelf.Strconv.Itoa2
import Derived.Shelf.Strconv.Itoa3
import Derived.Shelf.Strings.Search1
import Derived.Shelf.Strings.Search2
import Derived.Shelf.Strings.Cut
import Derived.Shelf.Strings.Shaped
import Derived.Shelf.Sort.Plain
import Derived.Shelf.Strings.Prefix
import Derived.Shelf.Unicode.Latin
import Derived.Shelf.Strings.Runes
import Derived.Shelf.Strings.IndexAny
import Derived.Shelf.Strings.AsciiSet
import Derived.Shelf.Strings.IndexAnyAll
import Derived.Shelf.Unicode.DecodeSlow
import Derived.Shelf.Unicode.DecodeAny
import Derived.Shelf.Unicode.DecodeLast
import Derived.Shelf.Unicode.CaseLookup
import Derived.Shelf.Unicode.CaseConvert
import Derived.Shelf.Unicode.CaseTo
import Derived.Shelf.Unicode.CaseLaid
import Derived.Shelf.Slices.CompactS
import Derived.Shelf.Slices.In.SortNone
import Derived.Lib.SlTrimSet
import Derived.Shelf.Strings.SlTrimAscii
import Derived.Laws.Rows
import Derived.Laws.MakeOwn
import Derived.Deep.WholeRow
import Derived.Laws.AppendOwnNone
set_option linter.unusedSimpArgs false
set_option linter.unusedVariables false

namespace Go.Proofs.YtpopljcmkbchcaaGreatDoor
open Go.RowKit

set_option maxHeartbeats 4000000 in
theorem age16_any (v:Value) (L:List Hd) (s n:Int) (w:World) (h:HdAt w v L) (hz:Szd 140737488351232 L) (hl:L.length≤1000000) (hb:bulkV L≤1000000000) (hs: -9223372036854775808≤s∧s≤9223372036854775807) (hn: -9223372036854775808≤n∧n≤9223372036854775807):
 Calls Tryz.prog 64 #[v,.int .i64 s,.int .i64 n] w fun e w'=>e = .returned (.int .i64 (ageV L s n))∧Below w.heap.size w w':=by
 obtain ⟨va,vcc,rfl,_,_,_⟩:=h.view
 have HG:=hid (get_any _ L ⟨#[97,103,101]⟩ w h (by decide) hz hl (by omega));have htl:=getT_len L nAg;obtain ⟨b,hbb⟩: ∃ b,getB L nAg=b:=⟨_,rfl⟩
 obtain ⟨T,hT⟩: ∃ B':ByteArray,⟨(getT L nAg).toArray⟩=B':=⟨_,rfl⟩
 rw [show (⟨#[97,103,101]⟩:ByteArray).data.toList=nAg from rfl,hT,hbb] at HG;have hTl:T.data.toList=getT L nAg:=by rw [← hT]
 have hTs:T.size≤1000000000:=by rw [Lib.size_eq,hTl];omega
 obtain ⟨S,hS⟩: ∃ B':ByteArray,⟨(strip T.data.toList).toArray⟩=B':=⟨_,rfl⟩
 have hSl:S.data.toList=strip T.data.toList:=by rw [← hS]
 have hSs:S.size≤1000000000:=by rw [Lib.size_eq,hSl];rw [Lib.size_eq] at hTs;have:=strip_le16 T.data.toList;omega
 obtain ⟨m,hm⟩: ∃ m,intV S.data.toList=m:=⟨_,rfl⟩
 obtain ⟨ok,hok⟩: ∃ m,intOk S.data.toList=m:=⟨_,rfl⟩
 have hmr:=intV_range_Efa S.data.toList;rw [hm] at hmr;have hir:=sinV_range s n;have HSt:Hid (∀ Y:World,Calls Tryz.prog 115 #[.string T] Y fun e w'=>e = .returned (.string S)∧Y=w'):=fun Y=>by rw [← hS];exact strip_any T Y (by omega)
 have HI:Hid (∀ Y:World,Calls Tryz.prog 103 #[.string S] Y fun e w'=>e = .returned (.tuple #[.int .i64 m,.bool ok])∧Y=w'):=fun Y=>by rw [← hm,← hok];exact int_any S Y (by omega)
 have HSi:=hid (fun (Y:World)=>since16_any s n Y hs hn);have HE:=hid (show ageV L s n=addV_Efa m (sinV s n) by unfold ageV;rw [← hTl,← hSl,hm]);obtain ⟨d,hd⟩: ∃ d,sinV s n=d:=⟨_,rfl⟩
 rw [hd] at HSi HE hir;have HAd:=hid (fun (Y:World)=>add16_any m d Y (by omega) (by omega));clear htl hbb hT hTl hTs hS hSl hSs hm hok hmr hir hd h hz hl hb
 go_enter Tryz.func64,Tryz.ntmps64
 go_wp2_with fail
 refine HG.out.mono ?_;rintro e w1 ⟨rfl,hb1⟩
 go_wp2_with fail
 refine (HSt.out _).mono ?_;rintro e w2 ⟨rfl,rfl⟩
 go_wp2_with fail
 refine (HI.out _).mono ?_;rintro e w2 ⟨rfl,rfl⟩
 go_wp2_with fail
 refine (HSi.out _).mono ?_;rintro e w2 ⟨rfl,hw2⟩
 rw [hw2];clear hw2
 go_wp2_with fail
 refine (HAd.out _).mono ?_;rintro e w2 ⟨rfl,hw2⟩
 rw [hw2];clear hw2
 go_wp2
 go_ret
 exact ⟨ret_i16 HE.out.symm,hb1⟩

set_option maxHeartbeats 8000000 in
set_option maxRecDepth 100000 in
theorem fresh16_any (v:Value) (L:List Hd) (s n:Int) (w:World) (hg:G5 w) (h:HdAt w v L) (hz:Szd 140737488351232 L) (hl:L.length≤1000000) (hb:bulkV L≤100000000) (hs: -9223372036854775808≤s∧s≤9223372036854775807) (hn: -9223372036854775808≤n∧n≤9223372036854775807):
 Calls Tryz.prog 67 #[v,.int .i64 s,.int .i64 n] w fun e w'=>e = .returned (.bool (freV L s n))∧Below w.heap.size w w':=by
 obtain ⟨va,vcc,rfl,_,_,_⟩:=h.view
 have HP:=hid (parse16_any _ L w hg h hz hl (by omega));have HA:=hid (fun (Y:World) (hY:Below w.heap.size w Y)=>age16_any _ L s n Y (h.kept hY) hz hl (by omega) hs hn);obtain ⟨A,hA⟩: ∃ A,ageV L s n=A:=⟨_,rfl⟩
 have HE:=hid (show freV L s n=(!(ctlV L).nc&&decide (A<(ctlV L).mx)) by unfold freV;rw [hA]);rw [hA] at HA;obtain ⟨c,hc⟩: ∃ c,ctlV L=c:=⟨_,rfl⟩
 rw [hc] at HP HE;obtain ⟨cs,cc,cm⟩:=c
 unfold CtPost at HP;clear hA hc h hz hl hb hg
 go_enter Tryz.func67,Tryz.ntmps67
 go_wp2_with fail
 refine HP.out.mono ?_;rintro e w1 ⟨rfl,hb1⟩
 obtain ⟨W2,hW2⟩: ∃ X,(w1.alloc (.cells #[.bool cs,.bool cc,.int .i64 cm] 87))=X:=⟨_,rfl⟩
 have hb2:Below w1.heap.size w1 W2:=by rw [← hW2];exact (Below.refl _ w1).alloc (Nat.le_refl _) _
 have hr2:CtC 87 W2 w1.heap.size ⟨cs,cc,cm⟩:=by rw [← hW2];exact heap_alloc_new w1 _
 have HB2:=hid (below2_Efc hb1 hb2);have HKF:=hid (fun (Z:World) (hZ:Below W2.heap.size W2 Z)=>(show Z.cell? ⟨w1.heap.size,1,none⟩=some (.bool cc)∧Z.cell? ⟨w1.heap.size,2,none⟩=some (.int .i64 cm) from ⟨(hr2.kept hZ).cells.2.1,(hr2.kept hZ).cells.2.2.1⟩));have HQ0:=hid ((Below.refl W2.heap.size W2).drew);clear hb1 hb2 hr2 HP
 cases cc with
 | true=>
   have HE2:=hid (show freV L s n=false by rw [HE.out];rfl);clear HE
   go_upto_region 2 with fail
   refine wp_region_held_drew (S:=(fun wx=>Below W2.heap.size W2 wx)) (by kernel_rfl) HQ0.out (fun hHeld=> ?_)
   refine wpAnyH_to (fuel':=13) (listed':= #[false,false,false,false,false,false,false,false,false,false,false,false,false]) rfl rfl ?_
   refine' wpAnyH_take (i:=0) (oi:=⟨some 10,_,_,_,_,_⟩) (v:=_) rfl (by kernel_rfl) (by kernel_rfl) (by kernel_rfl) (fun _ _ _ h=>h) (Or.inl ⟨by kernel_rfl,?hyfa1⟩) (by assumption) ?restfa1
   case hyfa1=>(intro wx hSw;(try dsimp only at hSw);obtain ⟨f1,f2⟩:=HKF.out _ hSw;go_simp;first | done | with_reducible rfl)
   (try simp only [Act.put,List.setIfInBounds_toArray,List.set_cons_zero,List.set_cons_succ])
   refine' wpAnyH_take (i:=1) (oi:=⟨some 11,_,_,_,_,_⟩) (v:=_) rfl (by kernel_rfl) (by kernel_rfl) (by kernel_rfl) (fun _ _ _ h=>h) (Or.inl ⟨by kernel_rfl,?hyfa2⟩) (by assumption) ?restfa2
   case hyfa2=>(intro wx hSw;(try dsimp only at hSw);obtain ⟨f1,f2⟩:=HKF.out _ hSw;go_simp;first | done | with_reducible rfl)
   (try simp only [Act.put,List.setIfInBounds_toArray,List.set_cons_zero,List.set_cons_succ])
   refine' wpAnyH_take (i:=2) (oi:=⟨some 12,_,_,_,_,_⟩) (v:=_) rfl (by kernel_rfl) (by kernel_rfl) (by kernel_rfl) (fun _ _ _ h=>h) (Or.inl ⟨by kernel_rfl,?hyfa3⟩) (by assumption) ?restfa3
   case hyfa3=>(intro wx hSw;(try dsimp only at hSw);obtain ⟨f1,f2⟩:=HKF.out _ hSw;go_simp;first | done | with_reducible rfl)
   (try simp only [Act.put,List.setIfInBounds_toArray,List.set_cons_zero,List.set_cons_succ])
   refine' wpAnyH_take (i:=3) (oi:=⟨some 13,_,_,_,_,_⟩) (v:=_) rfl (by kernel_rfl) (by kernel_rfl) (by kernel_rfl) (fun _ _ _ h=>h) (Or.inl ⟨by kernel_rfl,?hyfa4⟩) (by assumption) ?restfa4
   case hyfa4=>(intro wx hSw;(try dsimp only at hSw);obtain ⟨f1,f2⟩:=HKF.out _ hSw;go_simp;first | done | with_reducible rfl)
   (try simp only [Act.put,List.setIfInBounds_toArray,List.set_cons_zero,List.set_cons_succ])
   refine wpAnyH_take (i:=4) (oi:=⟨some 14,_,_,_,_,_⟩) (v:=undef) rfl (by kernel_rfl) (by kernel_rfl) (by kernel_rfl) (fun _ _ _ h=>h) (Or.inr ⟨by kernel_rfl,by kernel_rfl⟩) (by assumption) ?_
   (try simp only [Act.put,List.setIfInBounds_toArray,List.set_cons_zero,List.set_cons_succ])
   refine wpAnyH_take (i:=5) (oi:=⟨some 15,_,_,_,_,_⟩) (v:=undef) rfl (by kernel_rfl) (by kernel_rfl) (by kernel_rfl) (fun _ _ _ h=>h) (Or.inr ⟨by kernel_rfl,by kernel_rfl⟩) (by assumption) ?_
   (try simp only [Act.put,List.setIfInBounds_toArray,List.set_cons_zero,List.set_cons_succ])
   refine wpAnyH_take (i:=6) (oi:=⟨some 16,_,_,_,_,_⟩) (v:=undef) rfl (by kernel_rfl) (by kernel_rfl) (by kernel_rfl) (fun _ _ _ h=>h) (Or.inr ⟨by kernel_rfl,by kernel_rfl⟩) (by assumption) ?_
   (try simp only [Act.put,List.setIfInBounds_toArray,List.set_cons_zero,List.set_cons_succ])
   refine wpAnyH_take (i:=7) (oi:=⟨some 17,_,_,_,_,_⟩) (v:=undef) rfl (by kernel_rfl) (by kernel_rfl) (by kernel_rfl) (fun _ _ _ h=>h) (Or.inr ⟨by kernel_rfl,by kernel_rfl⟩) (by assumption) ?_
   (try simp only [Act.put,List.setIfInBounds_toArray,List.set_cons_zero,List.set_cons_succ])
   refine wpAnyH_take (i:=8) (oi:=⟨some 18,_,_,_,_,_⟩) (v:=undef) rfl (by kernel_rfl) (by kernel_rfl) (by kernel_rfl) (fun _ _ _ h=>h) (Or.inr ⟨by kernel_rfl,by kernel_rfl⟩) (by assumption) ?_
   (try simp only [Act.put,List.setIfInBounds_toArray,List.set_cons_zero,List.set_cons_succ])
   refine wpAnyH_take (i:=9) (oi:=⟨some 19,_,_,_,_,_⟩) (v:=undef) rfl (by kernel_rfl) (by kernel_rfl) (by kernel_rfl) (fun _ _ _ h=>h) (Or.inr ⟨by kernel_rfl,by kernel_rfl⟩) (by assumption) ?_
   (try simp only [Act.put,List.setIfInBounds_toArray,List.set_cons_zero,List.set_cons_succ])
   refine wpAnyH_take (i:=10) (oi:=⟨some 20,_,_,_,_,_⟩) (v:=undef) rfl (by kernel_rfl) (by kernel_rfl) (by kernel_rfl) (fun _ _ _ h=>h) (Or.inr ⟨by kernel_rfl,by kernel_rfl⟩) (by assumption) ?_
   (try simp only [Act.put,List.setIfInBounds_toArray,List.set_cons_zero,List.set_cons_succ])
   refine' wpAnyH_take (i:=11) (oi:=⟨some 21,_,_,_,_,_⟩) (v:=_) rfl (by kernel_rfl) (by kernel_rfl) (by kernel_rfl) (fun _ _ _ h=>h) (Or.inl ⟨by kernel_rfl,?hyfa5⟩) (by assumption) ?restfa5
   case hyfa5=>(intro wx hSw;(try dsimp only at hSw);obtain ⟨f1,f2⟩:=HKF.out _ hSw;go_simp;first | done | with_reducible rfl)
   (try simp only [Act.put,List.setIfInBounds_toArray,List.set_cons_zero,List.set_cons_succ])
   refine' wpAnyH_take (i:=12) (oi:=⟨some 6,_,_,_,_,_⟩) (v:=_) rfl (by kernel_rfl) (by kernel_rfl) (by kernel_rfl) (fun _ _ _ h=>h) (Or.inl ⟨by kernel_rfl,?hyfa6⟩) (by assumption) ?restfa6
   case hyfa6=>(intro wx hSw;(try dsimp only at hSw);obtain ⟨f1,f2⟩:=HKF.out _ hSw;go_simp;first | done | with_reducible rfl)
   (try simp only [Act.put,List.setIfInBounds_toArray,List.set_cons_zero,List.set_cons_succ])
   refine wpAnyH_done (by kernel_rfl) ?_ _
   go_wp2
   go_ret
   exact ⟨by rw [HE2.out];rfl,below2_Efc HB2.out HQ0.out⟩
 | false=>
   have HE2:=hid (show freV L s n=decide (A<cm) by rw [HE.out];rfl);clear HE
   go_upto_region 2 with fail
   refine wp_region_held_drew (S:=(fun wx=>Below W2.heap.size W2 wx)) (by kernel_rfl) HQ0.out (fun hHeld=> ?_)
   refine wpAnyH_to (fuel':=13) (listed':= #[false,false,false,false,false,false,false,false,false,false,false,false,false]) rfl rfl ?_
   refine' wpAnyH_take (i:=0) (oi:=⟨some 10,_,_,_,_,_⟩) (v:=_) rfl (by kernel_rfl) (by kernel_rfl) (by kernel_rfl) (fun _ _ _ h=>h) (Or.inl ⟨by kernel_rfl,?hyfb1⟩) (by assumption) ?restfb1
   case hyfb1=>(intro wx hSw;(try dsimp only at hSw);obtain ⟨f1,f2⟩:=HKF.out _ hSw;go_simp;first | done | with_reducible rfl)
   (try simp only [Act.put,List.setIfInBounds_toArray,List.set_cons_zero,List.set_cons_succ])
   refine' wpAnyH_take (i:=1) (oi:=⟨some 11,_,_,_,_,_⟩) (v:=_) rfl (by kernel_rfl) (by kernel_rfl) (by kernel_rfl) (fun _ _ _ h=>h) (Or.inl ⟨by kernel_rfl,?hyfb2⟩) (by assumption) ?restfb2
   case hyfb2=>(intro wx hSw;(try dsimp only at hSw);obtain ⟨f1,f2⟩:=HKF.out _ hSw;go_simp;first | done | with_reducible rfl)
   (try simp only [Act.put,List.setIfInBounds_toArray,List.set_cons_zero,List.set_cons_succ])
   refine' wpAnyH_take (i:=2) (oi:=⟨some 12,_,_,_,_,_⟩) (v:=_) rfl (by kernel_rfl) (by kernel_rfl) (by kernel_rfl) (fun _ _ _ h=>h) (Or.inl ⟨by kernel_rfl,?hyfb3⟩) (by assumption) ?restfb3
   case hyfb3=>(intro wx hSw;(try dsimp only at hSw);obtain ⟨f1,f2⟩:=HKF.out _ hSw;go_simp;first | done | with_reducible rfl)
   (try simp only [Act.put,List.setIfInBounds_toArray,List.set_cons_zero,List.set_cons_succ])
   refine' wpAnyH_take (i:=3) (oi:=⟨some 13,_,_,_,_,_⟩) (v:=_) rfl (by kernel_rfl) (by kernel_rfl) (by kernel_rfl) (fun _ _ _ h=>h) (Or.inl ⟨by kernel_rfl,?hyfb4⟩) (by assumption) ?restfb4
   case hyfb4=>(intro wx hSw;(try dsimp only at hSw);obtain ⟨f1,f2⟩:=HKF.out _ hSw;go_simp;first | done | with_reducible rfl)
   (try simp only [Act.put,List.setIfInBounds_toArray,List.set_cons_zero,List.set_cons_succ])
   refine' wpAnyH_take (i:=4) (oi:=⟨some 14,_,_,_,_,_⟩) (v:=_) rfl (by kernel_rfl) (by kernel_rfl) (by kernel_rfl) (fun _ _ _ h=>h) (Or.inl ⟨by kernel_rfl,?hyfb5⟩) (by assumption) ?restfb5
   case hyfb5=>(intro wx hSw;(try dsimp only at hSw);obtain ⟨f1,f2⟩:=HKF.out _ hSw;go_simp;first | done | with_reducible rfl)
   (try simp only [Act.put,List.setIfInBounds_toArray,List.set_cons_zero,List.set_cons_succ])
   refine' wpAnyH_take (i:=5) (oi:=⟨some 15,_,_,_,_,_⟩) (v:=_) rfl (by kernel_rfl) (by kernel_rfl) (by kernel_rfl) (fun _ _ _ h=>h) (Or.inl ⟨by kernel_rfl,?hyfb6⟩) (by assumption) ?restfb6
   case hyfb6=>(intro wx hSw;(try dsimp only at hSw);obtain ⟨f1,f2⟩:=HKF.out _ hSw;go_simp;first | done | with_reducible rfl)
   (try simp only [Act.put,List.setIfInBounds_toArray,List.set_cons_zero,List.set_cons_succ])
   refine' wpAnyH_take (i:=6) (oi:=⟨some 16,_,_,_,_,_⟩) (v:=_) rfl (by kernel_rfl) (by kernel_rfl) (by kernel_rfl) (fun _ _ _ h=>h) (Or.inl ⟨by kernel_rfl,?hyfb7⟩) (by assumption) ?restfb7
   case hyfb7=>(intro wx hSw;(try dsimp only at hSw);obtain ⟨f1,f2⟩:=HKF.out _ hSw;go_simp;first | done | with_reducible rfl)
   (try simp only [Act.put,List.setIfInBounds_toArray,List.set_cons_zero,List.set_cons_succ])
   refine' wpAnyH_take (i:=7) (oi:=⟨some 17,_,_,_,_,_⟩) (v:=_) rfl (by kernel_rfl) (by kernel_rfl) (by kernel_rfl) (fun _ _ _ h=>h) (Or.inl ⟨by kernel_rfl,?hyfb8⟩) (by assumption) ?restfb8
   case hyfb8=>(intro wx hSw;(try dsimp only at hSw);obtain ⟨f1,f2⟩:=HKF.out _ hSw;go_simp;first | done | with_reducible rfl)
   (try simp only [Act.put,List.setIfInBounds_toArray,List.set_cons_zero,List.set_cons_succ])
   refine' wpAnyH_take (i:=8) (oi:=⟨some 18,_,_,_,_,_⟩) (v:=_) rfl (by kernel_rfl) (by kernel_rfl) (by kernel_rfl) (fun _ _ _ h=>h) (Or.inl ⟨by kernel_rfl,?hyfb9⟩) (by assumption) ?restfb9
   case hyfb9=>(intro wx hSw;(try dsimp only at hSw);obtain ⟨f1,f2⟩:=HKF.out _ hSw;go_simp;first | done | with_reducible rfl)
   (try simp only [Act.put,List.setIfInBounds_toArray,List.set_cons_zero,List.set_cons_succ])
   refine wpAnyH_ready (rs:=[9]) (by kernel_rfl) (by simp) ?_
   refine AllReadyH.cons rfl (fun K9 hK=> ?_) AllReadyH.nil;rw [if_pos (by kernel_rfl)]
   go_simp
   go_wp2_with (go_at_call 64;refine (HA.out _ (below2_Efc HB2.out HQ0.out)).mono ?_;rintro e w4 ⟨rfl,hba⟩)
   have HQ4:=hid (below2_Efc HQ0.out hba);clear hba;refine hK.out _ _ HQ4.out (fun hHeld2=> ?_);clear hK K9 hHeld
   rename _=>hHeld
   refine' wpAnyH_take (i:=10) (oi:=⟨some 20,_,_,_,_,_⟩) (v:=_) rfl (by kernel_rfl) (by kernel_rfl) (by kernel_rfl) (fun _ _ _ h=>h) (Or.inl ⟨by kernel_rfl,?hyfb10⟩) (by assumption) ?restfb10
   case hyfb10=>(intro wx hSw;(try dsimp only at hSw);obtain ⟨f1,f2⟩:=HKF.out _ hSw;go_simp;first | done | with_reducible rfl)
   (try simp only [Act.put,List.setIfInBounds_toArray,List.set_cons_zero,List.set_cons_succ])
   refine' wpAnyH_take (i:=11) (oi:=⟨some 21,_,_,_,_,_⟩) (v:=_) rfl (by kernel_rfl) (by kernel_rfl) (by kernel_rfl) (fun _ _ _ h=>h) (Or.inl ⟨by kernel_rfl,?hyfb11⟩) (by assumption) ?restfb11
   case hyfb11=>(intro wx hSw;(try dsimp only at hSw);obtain ⟨f1,f2⟩:=HKF.out _ hSw;go_simp;first | done | with_reducible rfl)
   (try simp only [Act.put,List.setIfInBounds_toArray,List.set_cons_zero,List.set_cons_succ])
   refine' wpAnyH_take (i:=12) (oi:=⟨some 6,_,_,_,_,_⟩) (v:=_) rfl (by kernel_rfl) (by kernel_rfl) (by kernel_rfl) (fun _ _ _ h=>h) (Or.inl ⟨by kernel_rfl,?hyfb12⟩) (by assumption) ?restfb12
   case hyfb12=>(intro wx hSw;(try dsimp only at hSw);obtain ⟨f1,f2⟩:=HKF.out _ hSw;go_simp;first | done | with_reducible rfl)
   (try simp only [Act.put,List.setIfInBounds_toArray,List.set_cons_zero,List.set_cons_succ])
   refine wpAnyH_done (by kernel_rfl) ?_ _
   go_wp2
   go_ret
   exact ⟨by rw [HE2.out];rfl,below2_Efc HB2.out HQ4.out⟩

end Go.Proofs.YtpopljcmkbchcaaGreatDoor
