/-
  Walks and plain facts that this claim leans on, put together out of 1 texts: Eka.
-/
import Derived.Test.YtolioccofbhliaaGreatDoorProg
import Derived.Test.YtolioccofbhliaaGreatDoorQp1
import Derived.Test.YtolioccofbhliaaGreatDoorQp2
import Derived.Test.YtolioccofbhliaaGreatDoorQp3
import Derived.Test.YtolioccofbhliaaGreatDoorQp4
import Derived.Test.YtolioccofbhliaaGreatDoorQp5
import Derived.Test.YtolioccofbhliaaGreatDoorQp6
import Derived.Test.YtolioccofbhliaaGreatDoorQp7
import Derived.Test.YtolioccofbhliaaGreatDoorQp8
import Derived.Test.YtolioccofbhliaaGreatDoorQp9
import Derived.Test.YtolioccofbhliaaGreatDoorQp10
import Derived.Test.YtolioccofbhliaaGreatDoorQp11
import Derived.Test.YtolioccofbhliaaGreatDoorQp12
import Derived.Test.YtolioccofbhliaaGreatDoorQp13
import Derived.Test.YtolioccofbhliaaGreatDoorQp14
import Derived.Test.YtolioccofbhliaaGreatDoorQp15
import Derived.Test.YtolioccofbhliaaGreatDoorQp16
import Derived.Test.YtolioccofbhliaaGreatDoorQp17
import Derived.Test.YtolioccofbhliaaGreatDoorQp18
import Derived.Test.YtolioccofbhliaaGreatDoorQp19
import Derived.Test.YtolioccofbhliaaGreatDoorQp20
import Derived.Test.YtolioccofbhliaaGreatDoorQp21
import Derived.Test.YtolioccofbhliaaGreatDoorQp22
import Derived.Test.YtolioccofbhliaaGreatDoorQp23
import Derived.Test.YtolioccofbhliaaGreatDoorQp24
import Derived.Test.YtolioccofbhliaaGreatDoorQp25
import Derived.Test.YtolioccofbhliaaGreatDoorQp26
import Derived.Test.YtolioccofbhliaaGreatDoorQp27
import Derived.Test.YtolioccofbhliaaGreatDoorQp28
import Derived.BigRegion
import Derived.Deep.RegionHeld
import Derived.Deep.RegionHeldLaw
import Derived.Lib.IndexAny
import Derived.WalkKit
import Derived.Lib.UnsafeStr
import Derived.Lib.BufferRead
import Derived.Lib.RuneBytes
import Derived.Laws.RangeAny
import Derived.Deep.LoopGhost
import Derived.Maps.OwnSet
import Derived.Maps.OwnOps
import Derived.Maps.AppendAt
import Derived.StringKeys
import Derived.BigQuiet
import Derived.Deep.QuietTactic
import Derived.LoopN
import Derived.RegionTactic
import Derived.Deep.RegionLaw
import Derived.Deep.RegionWith
import Derived.WalkSpells
import Derived.WalkLawsBesides
import Derived.Lib.FieldsP
import Derived.Lib.DecodeN
import Derived.Lib.IndexMore
import Derived.Lib.Join
import Derived.Lib.SmallJoins
import Derived.Laws.CopyOwn
import Derived.Laws.ResultCell
import Derived.Deep.MidRow
import Derived.Laws.OwnMore
import Derived.Below
import Derived.WalkSmall
import Derived.Lib.LaidTab
import Derived.Lib.AppendIntMem
import Derived.Laws.AppendOwn
import Derived.Laws.Runes
import Derived.Lib.OthersKept
import Derived.Lib.FrozenHead2
import Derived.Lib.Builder
import Derived.Lib.AppendStr
import Derived.Lib.Replace
import Derived.Shelf.GgClosure.GivesRunes
import Derived.Laws.BitsAll
import Derived.Laws.Shifts
import Derived.Deep.DeepAppendRoom
import Derived.Laws.IdiomStrings
import Derived.Laws.BytesString
import Derived.Laws.CopyRow
import Derived.Sort.OwnSorted
import Derived.Lib.SlicesCompact
import Derived.Shelf.Slices.In.SortNone
import Derived.Shelf.Slices.CompactS
import Derived.Lib.SliceRun
import Derived.Sort.KeysCollected
import Derived.Lib.Case
import Derived.Deep.Cut
import Derived.Lib.LastIndexByte
import Derived.Lib.Strings
import Derived.Laws.BitsAllLaws
import Derived.Lib.Bytealg
import Derived.Lib.BufferMore
import Derived.OwnWalk
import Derived.Shelf.Strings.Builder1
import Derived.Shelf.Strings.Builder2
import Derived.Shelf.Strings.OnBuilder
import Derived.Shelf.Strings.Trim
import Derived.Shelf.Small.Utf8
import Derived.Shelf.Small.Bits
import Derived.Shelf.Small.Strs
import Derived.Shelf.Small.Wraps
import Derived.Shelf.Strings.BuilderF
import Derived.Shelf.Strings.BuilderK
import Derived.Shelf.Strings.Builder2Cap
import Derived.Shelf.Strconv.Itoa0
import Derived.Shelf.Strconv.Itoa1
import Derived.Shelf.LaysM
import Derived.Shelf.Strconv.Itoa2
import Derived.Shelf.Strconv.Itoa3
import Derived.Shelf.Strings.Search1
import Derived.Shelf.Strings.Search2
import Derived.Shelf.Strings.Cut
import Derived.Shelf.Strings.Shaped
import Derived.Shelf.Sort.Plain
import Derived.Shelf.Strings.Prefix
import Derived.Shelf.Strings.Runes
import Derived.Shelf.Strings.IndexAny
import Derived.Shelf.Strings.AsciiSet
import Derived.Shelf.Strings.IndexAnyAll
import Derived.Shelf.Unicode.DecodeSlow
import Derived.Shelf.Unicode.DecodeAny
import Derived.Shelf.Unicode.DecodeLast
import Derived.Ground.SlgnProg
import Derived.Shelf.SlicesE.Compact
import Derived.Ground.SlgfProg
import Derived.Shelf.SlicesE.IndexFunc
import Derived.Shelf.SlicesE.DeleteFunc
import Derived.Laws.AppendOwnNone
import Derived.Scope
import Derived.ScopeJumps
import Derived.WalkMore
import Derived.Lib.TrimByte
import Derived.Lib.ItoaNum
import Derived.Deep.WholeRow
import Derived.Lib.SlTrimSet
import Derived.Shelf.Strings.SlTrimAscii
import Derived.Deep.CutRange
import Derived.Laws.Rows
import Derived.Laws.MakeOwn
import Derived.Shelf.Spec.SearchS
import Derived.Sort.Walk0
set_option linter.unusedSimpArgs false
set_option linter.unusedVariables false

namespace Go.Proofs.YtolioccofbhliaaGreatDoor
open Go.RowKit

noncomputable def rg_g19 : Code := (Tryz.f5.body.bind (regOf 5)).getD .skip

set_option maxHeartbeats 40000000 in
set_option maxRecDepth 100000 in
theorem rr_g19 (t0 t4 t5 t6 t7 t8 t9 t11 t12 t14 t15 t16 t17 t18 t19 t20 t21 t22 t23 t24 t25 t26 t27 t28 t29 t30 t31 t32 t33 t34 t35 t36 t37 t38 t39 t40 t41 t42 t43 t44 t45 t46 t47 t48 t49 t50 t51 t52 t53 t54 t55 t56 t57 t58 t59 t60 t61 t62 t63 t64 t65 t66 t67 t68 t69 t70 t71 t72 t73 t74 t75 t76 t77 t78 t79 t80 t81 t82 t83 t84 t85 t86 t87 t88 t89 t90 t91 t92 t93 t94 t95 t96 t97 t98 t99 t100 t101 t102 t103 t104 t105 t106 t107 t108 t109 t110 t111 t112 t113 t114 t115 t116 t117 t118:Value) (wr:World) (ob rb:Nat) (cr:Bool) (mt:ByteArray) (qa:Option Addr) (qn qc:Nat) (st:Int) (va ba:Option Addr) (vn vc bn bc:Nat) (AS AH:ByteArray) (ap:Int) (ao:Bool) (LF:List Hd) (M N:List (List UInt8)) (al bok:Bool) (ag:Int)
 (ho:wr.heap[ob]? = some (.cells #[.string AS,.string AH,.int .i64 ap,.bool ao] 56 (0,0)))
 (hr:wr.heap[rb]? = some (.cells #[.int .i64 st,.slice va vn vc,.slice ba bn bc] 30 (0,0)))
 (HRp:Hid (∀ Y,Below wr.heap.size wr Y→Calls Tryz.prog 12 #[.agg #[.int .i64 st,.slice va vn vc,.slice ba bn bc]] Y fun e w'=> ∃ va vn vc da dn dc,e = .returned (.agg #[.int .i64 st,.slice va vn vc,.slice da dn dc])∧HdAt w' (.slice va vn vc) LF∧Below Y.heap.size Y w'))
 (HRd:Hid (∀ Y va vn vc da dn dc,Below wr.heap.size wr Y→HdAt Y (.slice va vn vc) LF→Calls Tryz.prog 31 #[.agg #[.string AS,.string AH,.int .i64 ap,.bool ao],.bool cr,.string mt,.slice qa qn qc,.agg #[.int .i64 st,.slice va vn vc,.slice da dn dc]] Y (RdPost ⟨M,N,al,ag⟩ bok Y)))
 (K:Act→World→Prop)
 (HK:Hid (∀ (u28 u29 u30 u31 u32 u33 u34 u27 u35 u36:Value) (b cM cN:Nat) (aM aN:Option Addr) (w2:World),w2.heap[b]? = some (.cells #[.slice aM M.length cM,.slice aN N.length cN,.bool al,.int .i64 ag] 60 (0,0))→w2.ownsRow wr.heap.size 9 1 (.slice aM M.length cM) M.length (cellsT M)→w2.ownsRow wr.heap.size 9 1 (.slice aN N.length cN) N.length (cellsT N)→wr.heap.size≤b→(∀ g,(Value.slice aM M.length cM).ownBlock=some g → ∀ g',(Value.slice aN N.length cN).ownBlock=some g'→g≠g')→Below wr.heap.size wr w2→K ⟨#[t0,.bool cr,.string mt,.slice qa qn qc,t4,t5,t6,t7,t8,t9,.pointer (some ⟨rb,0,none⟩),t11,t12,.pointer (some ⟨ob,0,none⟩),.pointer (some ⟨b,0,none⟩),.bool bok,t16,t17,t18,t19,t20,t21,t22,t23,t24,t25,t26,u27,u28,u29,u30,u31,u32,u33,u34,u35,u36,t37,t38,t39,t40,t41,t42,t43,t44,t45,t46,t47,t48,t49,t50,t51,t52,t53,t54,t55,t56,t57,t58,t59,t60,t61,t62,t63,t64,t65,t66,t67,t68,t69,t70,t71,t72,t73,t74,t75,t76,t77,t78,t79,t80,t81,t82,t83,t84,t85,t86,t87,t88,t89,t90,t91,t92,t93,t94,t95,t96,t97,t98,t99,t100,t101,t102,t103,t104,t105,t106,t107,t108,t109,t110,t111,t112,t113,t114,t115,t116,t117,t118],[]⟩ w2)):
 Code.wp Tryz.prog rg_g19 (Exit.then K fun _ _ _=>False) ⟨#[t0,.bool cr,.string mt,.slice qa qn qc,t4,t5,t6,t7,t8,t9,.pointer (some ⟨rb,0,none⟩),t11,t12,.pointer (some ⟨ob,0,none⟩),t14,t15,t16,t17,t18,t19,t20,t21,t22,t23,t24,t25,t26,t27,t28,t29,t30,t31,t32,t33,t34,t35,t36,t37,t38,t39,t40,t41,t42,t43,t44,t45,t46,t47,t48,t49,t50,t51,t52,t53,t54,t55,t56,t57,t58,t59,t60,t61,t62,t63,t64,t65,t66,t67,t68,t69,t70,t71,t72,t73,t74,t75,t76,t77,t78,t79,t80,t81,t82,t83,t84,t85,t86,t87,t88,t89,t90,t91,t92,t93,t94,t95,t96,t97,t98,t99,t100,t101,t102,t103,t104,t105,t106,t107,t108,t109,t110,t111,t112,t113,t114,t115,t116,t117,t118],[]⟩ wr:=by
 have HOg:=hid (fun (wx:World) (hx:Below wr.heap.size wr wx)=>range_row_Cb (cs:=[.string AS,.string AH,.int .i64 ap,.bool ao]) ((hx.block ob (Array.getElem?_eq_some_iff.1 ho).1).trans ho));have HRg:=hid (fun (wx:World) (hx:Below wr.heap.size wr wx)=>range_row_Cb (cs:=[.int .i64 st,.slice va vn vc,.slice ba bn bc]) ((hx.block rb (Array.getElem?_eq_some_iff.1 hr).1).trans hr));clear ho hr;unfold RdPost at HRd;dsimp only at HRd;have HQ0:=hid (show Below wr.heap.size wr wr.drew from (Below.refl _ wr).drew)
 conv=>arg 2;whnf
 refine wp_region_held_drew (S:=(fun wx=>Below wr.heap.size wr wx)) (by kernel_rfl) HQ0.out (fun hHeld=> ?_)
 generalize wr.drew=W0 at HQ0 hHeld ⊢;refine wpAnyH_to (fuel':=13) (listed':= #[false,false,false,false,false,false,false,false,false,false,false,false,false]) rfl rfl ?_;refine wpAnyH_take (i:=0) (oi:=⟨some 28,_,_,_,_,_⟩) rfl (by kernel_rfl) (by kernel_rfl) (by kernel_rfl) (fun _ _ _ h=>h) (yieldsIf_load_mid (by kernel_rfl) 56 (.tmp 13) rfl (ob) 0 rfl [.string AS,.string AH,.int .i64 ap,.bool ao] _ HOg.out Tryz.underlying56 rfl sizeO) (by assumption) ?_
 (try simp only [Act.put,List.setIfInBounds_toArray,List.set_cons_zero,List.set_cons_succ])
 refine wpAnyH_take (i:=4) (oi:=⟨some 32,_,_,_,_,_⟩) rfl (by kernel_rfl) (by kernel_rfl) (by kernel_rfl) (fun _ _ _ h=>h) (yieldsIf_load_mid (by kernel_rfl) 30 (.tmp 10) rfl (rb) 0 rfl [.int .i64 st,.slice va vn vc,.slice ba bn bc] _ HRg.out Tryz.underlying30 rfl sizeRp19) (by assumption) ?_
 (try simp only [Act.put,List.setIfInBounds_toArray,List.set_cons_zero,List.set_cons_succ])
 refine' wpAnyH_take (i:=1) (oi:=⟨some 29,_,_,_,_,_⟩) (v:=_) rfl (by kernel_rfl) (by kernel_rfl) (by kernel_rfl) (fun _ _ _ h=>h) (Or.inl ⟨by kernel_rfl,?hyg1⟩) (by assumption) ?restg1
 case hyg1=>(intro wx hSw;(try dsimp only at hSw);go_simp;first | done | with_reducible rfl)
 (try simp only [Act.put,List.setIfInBounds_toArray,List.set_cons_zero,List.set_cons_succ])
 refine' wpAnyH_take (i:=2) (oi:=⟨some 30,_,_,_,_,_⟩) (v:=_) rfl (by kernel_rfl) (by kernel_rfl) (by kernel_rfl) (fun _ _ _ h=>h) (Or.inl ⟨by kernel_rfl,?hyg2⟩) (by assumption) ?restg2
 case hyg2=>(intro wx hSw;(try dsimp only at hSw);go_simp;first | done | with_reducible rfl)
 (try simp only [Act.put,List.setIfInBounds_toArray,List.set_cons_zero,List.set_cons_succ])
 refine' wpAnyH_take (i:=3) (oi:=⟨some 31,_,_,_,_,_⟩) (v:=_) rfl (by kernel_rfl) (by kernel_rfl) (by kernel_rfl) (fun _ _ _ h=>h) (Or.inl ⟨by kernel_rfl,?hyg3⟩) (by assumption) ?restg3
 case hyg3=>(intro wx hSw;(try dsimp only at hSw);go_simp;first | done | with_reducible rfl)
 (try simp only [Act.put,List.setIfInBounds_toArray,List.set_cons_zero,List.set_cons_succ])
 refine wpAnyH_ready (rs:=[5,10]) (by kernel_rfl) (by simp) ?_
 refine AllReadyH.cons rfl (fun K9 hK=> ?_) (AllReadyH.cons rfl (fun K9 hK=> ?_) AllReadyH.nil)
 ·as_aux_lemma=>
   rw [if_pos (by kernel_rfl)]
   go_simp
   go_wp2_with (go_at_call 12;refine (HRp.out _ HQ0.out).mono ?_;rintro e w1 ⟨va1,vn1,vc1,da1,dn1,dc1,rfl,hd1,hb1⟩)
   have HQ1:=hid (below2 HQ0.out hb1);have HD1:=hid hd1;clear hd1;clear hb1;refine hK.out _ _ HQ1.out (fun hHeld2=> ?_);clear hK K9 hHeld
   rename _=>hHeld
   refine wpAnyH_ready (rs:=[6,10]) (by kernel_rfl) (by simp) ?_
   refine AllReadyH.cons rfl (fun K9 hK=> ?_) (AllReadyH.cons rfl (fun K9 hK=> ?_) AllReadyH.nil)
   ·as_aux_lemma=>
     rw [if_pos (by kernel_rfl)]
     go_simp
     go_wp2_with (go_at_call 31;refine (HRd.out _ _ _ _ _ _ _ HQ1.out HD1.out).mono ?_;rintro e w2 ⟨aM,cM,aN,cN,rfl,hoM2,hoN2,hne2,hb2⟩)
     have HQ2:=hid (below2 HQ1.out hb2);have HM2:=hid hoM2;have HN2:=hid hoN2;have HNe:=hid hne2;have HBs2:=hid (show wr.heap.size≤w1.heap.size from HQ1.out.size);clear hoM2 hoN2 hne2 hb2;refine hK.out _ _ HQ2.out (fun hHeld2=> ?_);clear hK K9 hHeld
     rename _=>hHeld
     refine' wpAnyH_take (i:=7) (oi:=⟨some 27,_,_,_,_,_⟩) (v:=_) rfl (by kernel_rfl) (by kernel_rfl) (by kernel_rfl) (fun _ _ _ h=>h) (Or.inl ⟨by kernel_rfl,?hyg4⟩) (by assumption) ?restg4
     case hyg4=>(intro wx hSw;(try dsimp only at hSw);go_simp;first | done | with_reducible rfl)
     (try simp only [Act.put,List.setIfInBounds_toArray,List.set_cons_zero,List.set_cons_succ])
     refine' wpAnyH_take (i:=8) (oi:=⟨some 35,_,_,_,_,_⟩) (v:=_) rfl (by kernel_rfl) (by kernel_rfl) (by kernel_rfl) (fun _ _ _ h=>h) (Or.inl ⟨by kernel_rfl,?hyg5⟩) (by assumption) ?restg5
     case hyg5=>(intro wx hSw;(try dsimp only at hSw);go_simp;first | done | with_reducible rfl)
     (try simp only [Act.put,List.setIfInBounds_toArray,List.set_cons_zero,List.set_cons_succ])
     refine' wpAnyH_take (i:=9) (oi:=⟨some 36,_,_,_,_,_⟩) (v:=_) rfl (by kernel_rfl) (by kernel_rfl) (by kernel_rfl) (fun _ _ _ h=>h) (Or.inl ⟨by kernel_rfl,?hyg6⟩) (by assumption) ?restg6
     case hyg6=>(intro wx hSw;(try dsimp only at hSw);go_simp;first | done | with_reducible rfl)
     (try simp only [Act.put,List.setIfInBounds_toArray,List.set_cons_zero,List.set_cons_succ])
     refine wpAnyH_ready (rs:=[10]) (by kernel_rfl) (by simp) ?_
     refine AllReadyH.cons rfl (fun K9 hK=> ?_) AllReadyH.nil;rw [if_pos (by kernel_rfl)]
     go_simp
     have hb3:Below w2.heap.size w2 (w2.alloc (.cells #[.slice none 0 0,.slice none 0 0,.bool false,.int .i64 0] 60)):=(Below.refl _ w2).alloc (Nat.le_refl _) _;have hx3:(w2.alloc (.cells #[.slice none 0 0,.slice none 0 0,.bool false,.int .i64 0] 60)).heap[w2.heap.size]? = some (.cells #[.slice none 0 0,.slice none 0 0,.bool false,.int .i64 0] 60 (0,0)):=heap_alloc_new w2 _;have HBb3:=hid (show wr.heap.size≤w2.heap.size from HQ2.out.size);generalize (w2.alloc (.cells #[.slice none 0 0,.slice none 0 0,.bool false,.int .i64 0] 60))=w3 at hb3 hx3 ⊢;have HQ3:=hid (below2 HQ2.out hb3)
     have HG3:=hid hx3;have HM3:=hid (own_same HM2.out hb3);have HN3:=hid (own_same HN2.out hb3);clear hb3 hx3;refine hK.out _ _ HQ3.out (fun hHeld2=> ?_);clear hK K9 hHeld
     rename _=>hHeld
     have d0:w3.cell? ⟨w2.heap.size,0,none⟩=some (.slice none 0 0):=by rw [Lib.cell_of_heap HG3.out];rfl
     have f0:w3.frozen? ⟨w2.heap.size,0,none⟩=false:=Lib.frozen_of_heap HG3.out 0
     have d1:w3.cell? ⟨w2.heap.size,1,none⟩=some (.slice none 0 0):=by rw [Lib.cell_of_heap HG3.out];rfl
     have f1:w3.frozen? ⟨w2.heap.size,1,none⟩=false:=Lib.frozen_of_heap HG3.out 1
     have d2:w3.cell? ⟨w2.heap.size,2,none⟩=some (.bool false):=by rw [Lib.cell_of_heap HG3.out];rfl
     have f2:w3.frozen? ⟨w2.heap.size,2,none⟩=false:=Lib.frozen_of_heap HG3.out 2
     have d3:w3.cell? ⟨w2.heap.size,3,none⟩=some (.int .i64 0):=by rw [Lib.cell_of_heap HG3.out];rfl
     have f3:w3.frozen? ⟨w2.heap.size,3,none⟩=false:=Lib.frozen_of_heap HG3.out 3
     have hbb:=HBb3.out;refine wpAnyH_ready (rs:=[11]) (by kernel_rfl) (by simp) ?_
     refine AllReadyH.cons rfl (fun K9 hK=> ?_) AllReadyH.nil;rw [if_pos (by kernel_rfl)]
     go_simp
     go_wp2_with fail
     have HQe:=hid (below4_19 (g:=w2.heap.size) HQ3.out hbb (.slice aM M.length cM) (.slice aN N.length cN) (.bool al) (.int .i64 ag));refine hK.out _ _ HQe.out (fun hHeld2=> ?_);clear hK K9 hHeld
     rename _=>hHeld
     refine' wpAnyH_take (i:=12) (oi:=⟨some 15,_,_,_,_,_⟩) (v:=_) rfl (by kernel_rfl) (by kernel_rfl) (by kernel_rfl) (fun _ _ _ h=>h) (Or.inl ⟨by kernel_rfl,?hyg7⟩) (by assumption) ?restg7
     case hyg7=>(intro wx hSw;(try dsimp only at hSw);go_simp;first | done | with_reducible rfl)
     (try simp only [Act.put,List.setIfInBounds_toArray,List.set_cons_zero,List.set_cons_succ])
     refine wpAnyH_done (by kernel_rfl) ?_ _
     refine HK.out _ _ _ _ _ _ _ _ _ _ _ _ _ _ _ _ (set4_19 HG3.out) ?_ ?_ hbb HNe.out HQe.out
     ·exact own_base19 (ownsRow_same HM3.out (fun g hg=>far4_19 (fun e=>kind_ne19 HM3.out hg HG3.out (by decide) e.symm) _ _ _ _)) HBs2.out
     ·exact own_base19 (ownsRow_same HN3.out (fun g hg=>far4_19 (fun e=>kind_ne19 HN3.out hg HG3.out (by decide) e.symm) _ _ _ _)) HBs2.out
   ·as_aux_lemma=>
     rw [if_pos (by kernel_rfl)]
     go_simp
     have hb4:Below w1.heap.size w1 (w1.alloc (.cells #[.slice none 0 0,.slice none 0 0,.bool false,.int .i64 0] 60)):=(Below.refl _ w1).alloc (Nat.le_refl _) _;have hx4:(w1.alloc (.cells #[.slice none 0 0,.slice none 0 0,.bool false,.int .i64 0] 60)).heap[w1.heap.size]? = some (.cells #[.slice none 0 0,.slice none 0 0,.bool false,.int .i64 0] 60 (0,0)):=heap_alloc_new w1 _;have HBb4:=hid (show wr.heap.size≤w1.heap.size from HQ1.out.size);generalize (w1.alloc (.cells #[.slice none 0 0,.slice none 0 0,.bool false,.int .i64 0] 60))=w4 at hb4 hx4 ⊢;have HQ4:=hid (below2 HQ1.out hb4)
     have HG4:=hid hx4;have HD4:=hid (HD1.out.kept hb4);clear hb4 hx4;refine hK.out _ _ HQ4.out (fun hHeld2=> ?_);clear hK K9 hHeld
     rename _=>hHeld
     refine wpAnyH_ready (rs:=[6]) (by kernel_rfl) (by simp) ?_
     refine AllReadyH.cons rfl (fun K9 hK=> ?_) AllReadyH.nil;rw [if_pos (by kernel_rfl)]
     go_simp
     go_wp2_with (go_at_call 31;refine (HRd.out _ _ _ _ _ _ _ HQ4.out HD4.out).mono ?_;rintro e w5 ⟨aM,cM,aN,cN,rfl,hoM5,hoN5,hne5,hb5⟩)
     have HQ5:=hid (below2 HQ4.out hb5);have HM5:=hid hoM5;have HN5:=hid hoN5;have HNe:=hid hne5;have HBs5:=hid (show wr.heap.size≤w4.heap.size from HQ4.out.size);have HG5:=hid ((hb5.block w1.heap.size (Array.getElem?_eq_some_iff.1 HG4.out).1).trans HG4.out);clear hoM5 hoN5 hne5 hb5;refine hK.out _ _ HQ5.out (fun hHeld2=> ?_);clear hK K9 hHeld
     rename _=>hHeld
     refine' wpAnyH_take (i:=7) (oi:=⟨some 27,_,_,_,_,_⟩) (v:=_) rfl (by kernel_rfl) (by kernel_rfl) (by kernel_rfl) (fun _ _ _ h=>h) (Or.inl ⟨by kernel_rfl,?hyg8⟩) (by assumption) ?restg8
     case hyg8=>(intro wx hSw;(try dsimp only at hSw);go_simp;first | done | with_reducible rfl)
     (try simp only [Act.put,List.setIfInBounds_toArray,List.set_cons_zero,List.set_cons_succ])
     refine' wpAnyH_take (i:=8) (oi:=⟨some 35,_,_,_,_,_⟩) (v:=_) rfl (by kernel_rfl) (by kernel_rfl) (by kernel_rfl) (fun _ _ _ h=>h) (Or.inl ⟨by kernel_rfl,?hyg9⟩) (by assumption) ?restg9
     case hyg9=>(intro wx hSw;(try dsimp only at hSw);go_simp;first | done | with_reducible rfl)
     (try simp only [Act.put,List.setIfInBounds_toArray,List.set_cons_zero,List.set_cons_succ])
     refine' wpAnyH_take (i:=9) (oi:=⟨some 36,_,_,_,_,_⟩) (v:=_) rfl (by kernel_rfl) (by kernel_rfl) (by kernel_rfl) (fun _ _ _ h=>h) (Or.inl ⟨by kernel_rfl,?hyg10⟩) (by assumption) ?restg10
     case hyg10=>(intro wx hSw;(try dsimp only at hSw);go_simp;first | done | with_reducible rfl)
     (try simp only [Act.put,List.setIfInBounds_toArray,List.set_cons_zero,List.set_cons_succ])
     have d0:w5.cell? ⟨w1.heap.size,0,none⟩=some (.slice none 0 0):=by rw [Lib.cell_of_heap HG5.out];rfl
     have f0:w5.frozen? ⟨w1.heap.size,0,none⟩=false:=Lib.frozen_of_heap HG5.out 0
     have d1:w5.cell? ⟨w1.heap.size,1,none⟩=some (.slice none 0 0):=by rw [Lib.cell_of_heap HG5.out];rfl
     have f1:w5.frozen? ⟨w1.heap.size,1,none⟩=false:=Lib.frozen_of_heap HG5.out 1
     have d2:w5.cell? ⟨w1.heap.size,2,none⟩=some (.bool false):=by rw [Lib.cell_of_heap HG5.out];rfl
     have f2:w5.frozen? ⟨w1.heap.size,2,none⟩=false:=Lib.frozen_of_heap HG5.out 2
     have d3:w5.cell? ⟨w1.heap.size,3,none⟩=some (.int .i64 0):=by rw [Lib.cell_of_heap HG5.out];rfl
     have f3:w5.frozen? ⟨w1.heap.size,3,none⟩=false:=Lib.frozen_of_heap HG5.out 3
     have hbb:=HBb4.out;refine wpAnyH_ready (rs:=[11]) (by kernel_rfl) (by simp) ?_
     refine AllReadyH.cons rfl (fun K9 hK=> ?_) AllReadyH.nil;rw [if_pos (by kernel_rfl)]
     go_simp
     go_wp2_with fail
     have HQe:=hid (below4_19 (g:=w1.heap.size) HQ5.out hbb (.slice aM M.length cM) (.slice aN N.length cN) (.bool al) (.int .i64 ag));refine hK.out _ _ HQe.out (fun hHeld2=> ?_);clear hK K9 hHeld
     rename _=>hHeld
     refine' wpAnyH_take (i:=12) (oi:=⟨some 15,_,_,_,_,_⟩) (v:=_) rfl (by kernel_rfl) (by kernel_rfl) (by kernel_rfl) (fun _ _ _ h=>h) (Or.inl ⟨by kernel_rfl,?hyg11⟩) (by assumption) ?restg11
     case hyg11=>(intro wx hSw;(try dsimp only at hSw);go_simp;first | done | with_reducible rfl)
     (try simp only [Act.put,List.setIfInBounds_toArray,List.set_cons_zero,List.set_cons_succ])
     refine wpAnyH_done (by kernel_rfl) ?_ _
     refine HK.out _ _ _ _ _ _ _ _ _ _ _ _ _ _ _ _ (set4_19 HG5.out) ?_ ?_ hbb HNe.out HQe.out
     ·exact own_base19 (ownsRow_same HM5.out (fun g hg=>far4_19 (fun e=>kind_ne19 HM5.out hg HG5.out (by decide) e.symm) _ _ _ _)) HBs5.out
     ·exact own_base19 (ownsRow_same HN5.out (fun g hg=>far4_19 (fun e=>kind_ne19 HN5.out hg HG5.out (by decide) e.symm) _ _ _ _)) HBs5.out
 ·as_aux_lemma=>
   rw [if_pos (by kernel_rfl)]
   go_simp
   have hb6:Below W0.heap.size W0 (W0.alloc (.cells #[.slice none 0 0,.slice none 0 0,.bool false,.int .i64 0] 60)):=(Below.refl _ W0).alloc (Nat.le_refl _) _;have hx6:(W0.alloc (.cells #[.slice none 0 0,.slice none 0 0,.bool false,.int .i64 0] 60)).heap[W0.heap.size]? = some (.cells #[.slice none 0 0,.slice none 0 0,.bool false,.int .i64 0] 60 (0,0)):=heap_alloc_new W0 _;have HBb6:=hid (show wr.heap.size≤W0.heap.size from HQ0.out.size);generalize (W0.alloc (.cells #[.slice none 0 0,.slice none 0 0,.bool false,.int .i64 0] 60))=w6 at hb6 hx6 ⊢;have HQ6:=hid (below2 HQ0.out hb6)
   have HG6:=hid hx6;clear hb6 hx6;refine hK.out _ _ HQ6.out (fun hHeld2=> ?_);clear hK K9 hHeld
   rename _=>hHeld
   refine wpAnyH_ready (rs:=[5]) (by kernel_rfl) (by simp) ?_
   refine AllReadyH.cons rfl (fun K9 hK=> ?_) AllReadyH.nil;rw [if_pos (by kernel_rfl)]
   go_simp
   go_wp2_with (go_at_call 12;refine (HRp.out _ HQ6.out).mono ?_;rintro e w7 ⟨va7,vn7,vc7,da7,dn7,dc7,rfl,hd7,hb7⟩)
   have HQ7:=hid (below2 HQ6.out hb7);have HG7:=hid ((hb7.block W0.heap.size (Array.getElem?_eq_some_iff.1 HG6.out).1).trans HG6.out);have HD7:=hid hd7;clear hd7;clear hb7;refine hK.out _ _ HQ7.out (fun hHeld2=> ?_);clear hK K9 hHeld
   rename _=>hHeld
   refine wpAnyH_ready (rs:=[6]) (by kernel_rfl) (by simp) ?_
   refine AllReadyH.cons rfl (fun K9 hK=> ?_) AllReadyH.nil;rw [if_pos (by kernel_rfl)]
   go_simp
   go_wp2_with (go_at_call 31;refine (HRd.out _ _ _ _ _ _ _ HQ7.out HD7.out).mono ?_;rintro e w8 ⟨aM,cM,aN,cN,rfl,hoM8,hoN8,hne8,hb8⟩)
   have HQ8:=hid (below2 HQ7.out hb8);have HM8:=hid hoM8;have HN8:=hid hoN8;have HNe:=hid hne8;have HBs8:=hid (show wr.heap.size≤w7.heap.size from HQ7.out.size);have HG8:=hid ((hb8.block W0.heap.size (Array.getElem?_eq_some_iff.1 HG7.out).1).trans HG7.out);clear hoM8 hoN8 hne8 hb8;refine hK.out _ _ HQ8.out (fun hHeld2=> ?_);clear hK K9 hHeld
   rename _=>hHeld
   refine' wpAnyH_take (i:=7) (oi:=⟨some 27,_,_,_,_,_⟩) (v:=_) rfl (by kernel_rfl) (by kernel_rfl) (by kernel_rfl) (fun _ _ _ h=>h) (Or.inl ⟨by kernel_rfl,?hyg12⟩) (by assumption) ?restg12
   case hyg12=>(intro wx hSw;(try dsimp only at hSw);go_simp;first | done | with_reducible rfl)
   (try simp only [Act.put,List.setIfInBounds_toArray,List.set_cons_zero,List.set_cons_succ])
   refine' wpAnyH_take (i:=8) (oi:=⟨some 35,_,_,_,_,_⟩) (v:=_) rfl (by kernel_rfl) (by kernel_rfl) (by kernel_rfl) (fun _ _ _ h=>h) (Or.inl ⟨by kernel_rfl,?hyg13⟩) (by assumption) ?restg13
   case hyg13=>(intro wx hSw;(try dsimp only at hSw);go_simp;first | done | with_reducible rfl)
   (try simp only [Act.put,List.setIfInBounds_toArray,List.set_cons_zero,List.set_cons_succ])
   refine' wpAnyH_take (i:=9) (oi:=⟨some 36,_,_,_,_,_⟩) (v:=_) rfl (by kernel_rfl) (by kernel_rfl) (by kernel_rfl) (fun _ _ _ h=>h) (Or.inl ⟨by kernel_rfl,?hyg14⟩) (by assumption) ?restg14
   case hyg14=>(intro wx hSw;(try dsimp only at hSw);go_simp;first | done | with_reducible rfl)
   (try simp only [Act.put,List.setIfInBounds_toArray,List.set_cons_zero,List.set_cons_succ])
   have d0:w8.cell? ⟨W0.heap.size,0,none⟩=some (.slice none 0 0):=by rw [Lib.cell_of_heap HG8.out];rfl
   have f0:w8.frozen? ⟨W0.heap.size,0,none⟩=false:=Lib.frozen_of_heap HG8.out 0
   have d1:w8.cell? ⟨W0.heap.size,1,none⟩=some (.slice none 0 0):=by rw [Lib.cell_of_heap HG8.out];rfl
   have f1:w8.frozen? ⟨W0.heap.size,1,none⟩=false:=Lib.frozen_of_heap HG8.out 1
   have d2:w8.cell? ⟨W0.heap.size,2,none⟩=some (.bool false):=by rw [Lib.cell_of_heap HG8.out];rfl
   have f2:w8.frozen? ⟨W0.heap.size,2,none⟩=false:=Lib.frozen_of_heap HG8.out 2
   have d3:w8.cell? ⟨W0.heap.size,3,none⟩=some (.int .i64 0):=by rw [Lib.cell_of_heap HG8.out];rfl
   have f3:w8.frozen? ⟨W0.heap.size,3,none⟩=false:=Lib.frozen_of_heap HG8.out 3
   have hbb:=HBb6.out;refine wpAnyH_ready (rs:=[11]) (by kernel_rfl) (by simp) ?_
   refine AllReadyH.cons rfl (fun K9 hK=> ?_) AllReadyH.nil;rw [if_pos (by kernel_rfl)]
   go_simp
   go_wp2_with fail
   have HQe:=hid (below4_19 (g:=W0.heap.size) HQ8.out hbb (.slice aM M.length cM) (.slice aN N.length cN) (.bool al) (.int .i64 ag));refine hK.out _ _ HQe.out (fun hHeld2=> ?_);clear hK K9 hHeld
   rename _=>hHeld
   refine' wpAnyH_take (i:=12) (oi:=⟨some 15,_,_,_,_,_⟩) (v:=_) rfl (by kernel_rfl) (by kernel_rfl) (by kernel_rfl) (fun _ _ _ h=>h) (Or.inl ⟨by kernel_rfl,?hyg15⟩) (by assumption) ?restg15
   case hyg15=>(intro wx hSw;(try dsimp only at hSw);go_simp;first | done | with_reducible rfl)
   (try simp only [Act.put,List.setIfInBounds_toArray,List.set_cons_zero,List.set_cons_succ])
   refine wpAnyH_done (by kernel_rfl) ?_ _
   refine HK.out _ _ _ _ _ _ _ _ _ _ _ _ _ _ _ _ (set4_19 HG8.out) ?_ ?_ hbb HNe.out HQe.out
   ·exact own_base19 (ownsRow_same HM8.out (fun g hg=>far4_19 (fun e=>kind_ne19 HM8.out hg HG8.out (by decide) e.symm) _ _ _ _)) HBs8.out
   ·exact own_base19 (ownsRow_same HN8.out (fun g hg=>far4_19 (fun e=>kind_ne19 HN8.out hg HG8.out (by decide) e.symm) _ _ _ _)) HBs8.out

end Go.Proofs.YtolioccofbhliaaGreatDoor
