/-
  Walks and plain facts that this claim leans on, put together out of 2 texts: Ekc, Pm.
-/
import Derived.Test.YtolioccofbhliaaGreatDoorProg
import Derived.Test.YtolioccofbhliaaGreatDoorQp1
import Derived.Test.YtolioccofbhliaaGreatDoorQp2
import Derived.Test.YtolioccofbhliaaGreatDoorQp3
import Derived.Test.YtolioccofbhliaaGreatDoorQp4
import Derived.Test.YtolioccofbhliaaGreatDoorQp5
import Derived.Test.YtolioccofbhliaaGreatDoorQp6
import Derived.Test.YtolioccofbhliaaGreatDoorQp7
import Derived.Test.YtolioccofbhliaaGreatDoorQp8
import Derived.Test.YtolioccofbhliaaGreatDoorQp9
import Derived.Test.YtolioccofbhliaaGreatDoorQp10
import Derived.Test.YtolioccofbhliaaGreatDoorQp11
import Derived.Test.YtolioccofbhliaaGreatDoorQp12
import Derived.Test.YtolioccofbhliaaGreatDoorQp13
import Derived.Test.YtolioccofbhliaaGreatDoorQp14
import Derived.Test.YtolioccofbhliaaGreatDoorQp15
import Derived.Test.YtolioccofbhliaaGreatDoorQp16
import Derived.Test.YtolioccofbhliaaGreatDoorQp17
import Derived.Test.YtolioccofbhliaaGreatDoorQp18
import Derived.Test.YtolioccofbhliaaGreatDoorQp19
import Derived.Test.YtolioccofbhliaaGreatDoorQp20
import Derived.Test.YtolioccofbhliaaGreatDoorQp21
import Derived.Test.YtolioccofbhliaaGreatDoorQp22
import Derived.Test.YtolioccofbhliaaGreatDoorQp23
import Derived.Test.YtolioccofbhliaaGreatDoorQp24
import Derived.Test.YtolioccofbhliaaGreatDoorQp25
import Derived.Test.YtolioccofbhliaaGreatDoorQp26
import Derived.Test.YtolioccofbhliaaGreatDoorQp27
import Derived.Test.YtolioccofbhliaaGreatDoorQp28
import Derived.BigRegion
import Derived.Deep.RegionHeld
import Derived.Deep.RegionHeldLaw
import Derived.Lib.IndexAny
import Derived.WalkKit
import Derived.Lib.UnsafeStr
import Derived.Lib.BufferRead
import Derived.Lib.RuneBytes
import Derived.Laws.RangeAny
import Derived.Deep.LoopGhost
import Derived.Maps.OwnSet
import Derived.Maps.OwnOps
import Derived.Maps.AppendAt
import Derived.StringKeys
import Derived.BigQuiet
import Derived.Deep.QuietTactic
import Derived.LoopN
import Derived.RegionTactic
import Derived.Deep.RegionLaw
import Derived.Deep.RegionWith
import Derived.WalkSpells
import Derived.WalkLawsBesides
import Derived.Lib.FieldsP
import Derived.Lib.DecodeN
import Derived.Lib.IndexMore
import Derived.Lib.Join
import Derived.Lib.SmallJoins
import Derived.Laws.CopyOwn
import Derived.Laws.ResultCell
import Derived.Deep.MidRow
import Derived.Laws.OwnMore
import Derived.Below
import Derived.WalkSmall
import Derived.Lib.LaidTab
import Derived.Lib.AppendIntMem
import Derived.Laws.AppendOwn
import Derived.Laws.Runes
import Derived.Lib.OthersKept
import Derived.Lib.FrozenHead2
import Derived.Lib.Builder
import Derived.Lib.AppendStr
import Derived.Lib.Replace
import Derived.Shelf.GgClosure.GivesRunes
import Derived.Laws.BitsAll
import Derived.Laws.Shifts
import Derived.Deep.DeepAppendRoom
import Derived.Laws.IdiomStrings
import Derived.Laws.BytesString
import Derived.Laws.CopyRow
import Derived.Sort.OwnSorted
import Derived.Lib.SlicesCompact
import Derived.Shelf.Slices.In.SortNone
import Derived.Shelf.Slices.CompactS
import Derived.Lib.SliceRun
import Derived.Sort.KeysCollected
import Derived.Lib.Case
import Derived.Deep.Cut
import Derived.Lib.LastIndexByte
import Derived.Lib.Strings
import Derived.Laws.BitsAllLaws
import Derived.Lib.Bytealg
import Derived.Lib.BufferMore
import Derived.OwnWalk
import Derived.Shelf.Strings.Builder1
import Derived.Shelf.Strings.Builder2
import Derived.Shelf.Strings.OnBuilder
import Derived.Shelf.Strings.Trim
import Derived.Shelf.Small.Utf8
import Derived.Shelf.Small.Bits
import Derived.Shelf.Small.Strs
import Derived.Shelf.Small.Wraps
import Derived.Shelf.Strings.BuilderF
import Derived.Shelf.Strings.BuilderK
import Derived.Shelf.Strings.Builder2Cap
import Derived.Shelf.Strconv.Itoa0
import Derived.Shelf.Strconv.Itoa1
import Derived.Shelf.LaysM
import Derived.Shelf.Strconv.Itoa2
import Derived.Shelf.Strconv.Itoa3
import Derived.Shelf.Strings.Search1
import Derived.Shelf.Strings.Search2
import Derived.Shelf.Strings.Cut
import Derived.Shelf.Strings.Shaped
import Derived.Shelf.Sort.Plain
import Derived.Shelf.Strings.Prefix
import Derived.Shelf.Strings.Runes
import Derived.Shelf.Strings.IndexAny
import Derived.Shelf.Strings.AsciiSet
import Derived.Shelf.Strings.IndexAnyAll
import Derived.Shelf.Unicode.DecodeSlow
import Derived.Shelf.Unicode.DecodeAny
import Derived.Shelf.Unicode.DecodeLast
import Derived.Ground.SlgnProg
import Derived.Shelf.SlicesE.Compact
import Derived.Ground.SlgfProg
import Derived.Shelf.SlicesE.IndexFunc
import Derived.Shelf.SlicesE.DeleteFunc
import Derived.Laws.AppendOwnNone
import Derived.Scope
import Derived.ScopeJumps
import Derived.WalkMore
import Derived.Lib.TrimByte
import Derived.Lib.ItoaNum
import Derived.Deep.WholeRow
import Derived.Lib.SlTrimSet
import Derived.Shelf.Strings.SlTrimAscii
import Derived.Deep.CutRange
import Derived.Laws.Rows
import Derived.Laws.MakeOwn
import Derived.Shelf.Spec.SearchS
import Derived.Sort.Walk0
set_option linter.unusedSimpArgs false
set_option linter.unusedVariables false

namespace Go.Proofs.YtolioccofbhliaaGreatDoor
open Go.RowKit

noncomputable def rg_h19 : Code := (Tryz.f5.body.bind (regOf 14)).getD .skip

set_option maxHeartbeats 40000000 in
set_option maxRecDepth 100000 in
theorem rr_h19 (t0 t4 t6 t7 t8 t9 t10 t11 t12 t13 t15 t18 t19 t20 t21 t22 t23 t24 t25 t26 t27 t28 t29 t30 t31 t32 t33 t34 t35 t36 t37 t38 t39 t40 t41 t42 t43 t44 t45 t46 t47 t48 t49 t50 t51 t52 t53 t54 t55 t56 t57 t58 t59 t60 t61 t62 t63 t64 t65 t66 t67 t68 t69 t70 t71 t72 t73 t74 t75 t76 t77 t78 t79 t80 t81 t82 t83 t84 t85 t86 t87 t88 t89 t90 t91 t92 t93 t94 t95 t96 t97 t98 t99 t100 t101 t102 t103 t104 t105 t106 t107 t108 t109 t110 t111 t112 t113 t114 t115 t116 t117 t118:Value) (wr:World) (pt ob:Nat) (cr:Bool) (mt:ByteArray) (qa:Option Addr) (qn qc:Nat) (tm ag:Int) (x0 x1 x2:Value) (sm:Bool)
 (ho:wr.heap[ob]? = some (.cells #[x0,x1,x2,.int .i64 ag] 60 (0,0))) (htm:0≤tm∧tm≤9000) (hqn:qn≤9223372036854775807)
 (HAl:Hid (∀ Y,Below wr.heap.size wr Y→Calls Tryz.prog 36 #[.pointer (some ⟨pt,0,none⟩),.string ⟨#[115]⟩,.string ⟨#[117]⟩,.bool cr,.string mt,.slice qa qn qc,.int .i64 (50+tm)] Y fun e w'=>e = .returned (.bool (decide (tm<ag)||(sm&&decide (qn=0))))∧Below Y.heap.size Y w'))
 (K:Act→World→Prop)
 (HK:Hid (∀ (u70 u71 u72 u73 u74 u75 u76 u77 u78 u79 u80 u81 u82 u83 u84 u85 u86 u87 u88:Value) (w2:World),Below wr.heap.size wr w2→K ⟨#[t0,.bool cr,.string mt,.slice qa qn qc,t4,.int .i64 tm,t6,t7,t8,t9,t10,t11,t12,t13,.pointer (some ⟨ob,0,none⟩),t15,.pointer (some ⟨pt,0,none⟩),.bool sm,t18,t19,t20,t21,t22,t23,t24,t25,t26,t27,t28,t29,t30,t31,t32,t33,t34,t35,t36,t37,t38,t39,t40,t41,t42,t43,t44,t45,t46,t47,t48,t49,t50,t51,t52,t53,t54,t55,t56,t57,t58,t59,t60,t61,t62,t63,t64,t65,t66,t67,t68,t69,u70,u71,u72,u73,u74,u75,u76,u77,u78,u79,u80,u81,u82,u83,u84,u85,u86,u87,u88,.bool false,t90,t91,t92,t93,t94,t95,t96,t97,t98,t99,t100,t101,t102,t103,t104,t105,t106,t107,t108,t109,t110,t111,t112,t113,t114,t115,t116,t117,t118],[]⟩ w2)):
 Code.wp Tryz.prog rg_h19 (Exit.then K fun _ _ _=>False) ⟨#[t0,.bool cr,.string mt,.slice qa qn qc,t4,.int .i64 tm,t6,t7,t8,t9,t10,t11,t12,t13,.pointer (some ⟨ob,0,none⟩),t15,.pointer (some ⟨pt,0,none⟩),.bool sm,t18,t19,t20,t21,t22,t23,t24,t25,t26,t27,t28,t29,t30,t31,t32,t33,t34,t35,t36,t37,t38,t39,t40,t41,t42,t43,t44,t45,t46,t47,t48,t49,t50,t51,t52,t53,t54,t55,t56,t57,t58,t59,t60,t61,t62,t63,t64,t65,t66,t67,t68,t69,t70,t71,t72,t73,t74,t75,t76,t77,t78,t79,t80,t81,t82,t83,t84,t85,t86,t87,t88,t89,t90,t91,t92,t93,t94,t95,t96,t97,t98,t99,t100,t101,t102,t103,t104,t105,t106,t107,t108,t109,t110,t111,t112,t113,t114,t115,t116,t117,t118],[]⟩ wr:=by
 have HC0:=hid (fun (wx:World) (hx:Below wr.heap.size wr wx)=>(by rw [Lib.cell_of_heap ((hx.block ob (Array.getElem?_eq_some_iff.1 ho).1).trans ho)];rfl:wx.cell? ⟨ob,3,none⟩=some (.int .i64 ag)));have hw50:IntKind.i64.wrap (50+tm)=50+tm:=by rw [IntKind.wrap_i64];omega
 have HQ0:=hid (show Below wr.heap.size wr wr.drew from (Below.refl _ wr).drew);clear ho;by_cases hlt:tm<ag
 ·have hd:decide (tm<ag)=true:=decide_eq_true hlt
  rw [hd,Bool.true_or] at HAl
  conv=>arg 2;whnf
  refine wp_region_held_drew (S:=(fun wx=>Below wr.heap.size wr wx)) (by kernel_rfl) HQ0.out (fun hHeld=> ?_)
  generalize wr.drew=W0 at HQ0 hHeld ⊢;refine wpAnyH_to (fuel':=20) (listed':= #[false,false,false,false,false,false,false,false,false,false,false,false,false,false,false,false,false,false,false,false]) rfl rfl ?_
  refine' wpAnyH_take (i:=0) (oi:=⟨some 70,_,_,_,_,_⟩) (v:=_) rfl (by kernel_rfl) (by kernel_rfl) (by kernel_rfl) (fun _ _ _ h=>h) (Or.inl ⟨by kernel_rfl,?hya1⟩) (by assumption) ?resta1
  case hya1=>(intro wx hSw;(try dsimp only at hSw);have q0:=HC0.out _ hSw;go_simp;first | done | with_reducible rfl)
  (try simp only [Act.put,List.setIfInBounds_toArray,List.set_cons_zero,List.set_cons_succ])
  refine' wpAnyH_take (i:=1) (oi:=⟨some 71,_,_,_,_,_⟩) (v:=_) rfl (by kernel_rfl) (by kernel_rfl) (by kernel_rfl) (fun _ _ _ h=>h) (Or.inl ⟨by kernel_rfl,?hya2⟩) (by assumption) ?resta2
  case hya2=>(intro wx hSw;(try dsimp only at hSw);have q0:=HC0.out _ hSw;go_simp;first | done | with_reducible rfl)
  (try simp only [Act.put,List.setIfInBounds_toArray,List.set_cons_zero,List.set_cons_succ])
  refine' wpAnyH_take (i:=2) (oi:=⟨some 72,_,_,_,_,_⟩) (v:=_) rfl (by kernel_rfl) (by kernel_rfl) (by kernel_rfl) (fun _ _ _ h=>h) (Or.inl ⟨by kernel_rfl,?hya3⟩) (by assumption) ?resta3
  case hya3=>(intro wx hSw;(try dsimp only at hSw);have q0:=HC0.out _ hSw;go_simp;first | done | with_reducible rfl)
  (try simp only [Act.put,List.setIfInBounds_toArray,List.set_cons_zero,List.set_cons_succ])
  refine' wpAnyH_take (i:=3) (oi:=⟨some 73,_,_,_,_,_⟩) (v:=_) rfl (by kernel_rfl) (by kernel_rfl) (by kernel_rfl) (fun _ _ _ h=>h) (Or.inl ⟨by kernel_rfl,?hya4⟩) (by assumption) ?resta4
  case hya4=>(intro wx hSw;(try dsimp only at hSw);have q0:=HC0.out _ hSw;go_simp;first | done | with_reducible rfl)
  (try simp only [Act.put,List.setIfInBounds_toArray,List.set_cons_zero,List.set_cons_succ])
  refine' wpAnyH_take (i:=4) (oi:=⟨some 74,_,_,_,_,_⟩) (v:=_) rfl (by kernel_rfl) (by kernel_rfl) (by kernel_rfl) (fun _ _ _ h=>h) (Or.inl ⟨by kernel_rfl,?hya5⟩) (by assumption) ?resta5
  case hya5=>(intro wx hSw;(try dsimp only at hSw);have q0:=HC0.out _ hSw;go_simp;first | done | with_reducible rfl)
  (try simp only [Act.put,List.setIfInBounds_toArray,List.set_cons_zero,List.set_cons_succ])
  refine' wpAnyH_take (i:=5) (oi:=⟨some 75,_,_,_,_,_⟩) (v:=_) rfl (by kernel_rfl) (by kernel_rfl) (by kernel_rfl) (fun _ _ _ h=>h) (Or.inl ⟨by kernel_rfl,?hya6⟩) (by assumption) ?resta6
  case hya6=>(intro wx hSw;(try dsimp only at hSw);have q0:=HC0.out _ hSw;go_simp;first | done | with_reducible rfl)
  (try simp only [Act.put,List.setIfInBounds_toArray,List.set_cons_zero,List.set_cons_succ])
  refine' wpAnyH_take (i:=7) (oi:=⟨some 77,_,_,_,_,_⟩) (v:=_) rfl (by kernel_rfl) (by kernel_rfl) (by kernel_rfl) (fun _ _ _ h=>h) (Or.inl ⟨by kernel_rfl,?hya7⟩) (by assumption) ?resta7
  case hya7=>(intro wx hSw;(try dsimp only at hSw);have q0:=HC0.out _ hSw;go_simp;first | done | with_reducible rfl)
  (try simp only [Act.put,List.setIfInBounds_toArray,List.set_cons_zero,List.set_cons_succ])
  refine' wpAnyH_take (i:=8) (oi:=⟨some 78,_,_,_,_,_⟩) (v:=_) rfl (by kernel_rfl) (by kernel_rfl) (by kernel_rfl) (fun _ _ _ h=>h) (Or.inl ⟨by kernel_rfl,?hya8⟩) (by assumption) ?resta8
  case hya8=>(intro wx hSw;(try dsimp only at hSw);have q0:=HC0.out _ hSw;go_simp;first | done | with_reducible rfl)
  (try simp only [Act.put,List.setIfInBounds_toArray,List.set_cons_zero,List.set_cons_succ])
  refine' wpAnyH_take (i:=9) (oi:=⟨some 79,_,_,_,_,_⟩) (v:=_) rfl (by kernel_rfl) (by kernel_rfl) (by kernel_rfl) (fun _ _ _ h=>h) (Or.inl ⟨by kernel_rfl,?hya9⟩) (by assumption) ?resta9
  case hya9=>(intro wx hSw;(try dsimp only at hSw);have q0:=HC0.out _ hSw;go_simp;first | done | with_reducible rfl)
  (try simp only [Act.put,List.setIfInBounds_toArray,List.set_cons_zero,List.set_cons_succ])
  refine' wpAnyH_take (i:=10) (oi:=⟨some 80,_,_,_,_,_⟩) (v:=_) rfl (by kernel_rfl) (by kernel_rfl) (by kernel_rfl) (fun _ _ _ h=>h) (Or.inl ⟨by kernel_rfl,?hya10⟩) (by assumption) ?resta10
  case hya10=>(intro wx hSw;(try dsimp only at hSw);have q0:=HC0.out _ hSw;go_simp;first | done | with_reducible rfl)
  (try simp only [Act.put,List.setIfInBounds_toArray,List.set_cons_zero,List.set_cons_succ])
  refine wpAnyH_ready (rs:=[6]) (by kernel_rfl) (by simp) ?_
  refine AllReadyH.cons rfl (fun K9 hK=> ?_) AllReadyH.nil;rw [if_pos (by kernel_rfl)]
  go_simp
  go_wp2_with (go_at_call 36;refine (HAl.out _ HQ0.out).mono ?_;rintro e w1 ⟨rfl,hba⟩)
  have HQ1:=hid (below2 HQ0.out hba);clear hba;refine hK.out _ _ HQ1.out (fun hHeld2=> ?_);clear hK K9 hHeld
  rename _=>hHeld
  refine' wpAnyH_take (i:=11) (oi:=⟨some 81,_,_,_,_,_⟩) (v:=_) rfl (by kernel_rfl) (by kernel_rfl) (by kernel_rfl) (fun _ _ _ h=>h) (Or.inl ⟨by kernel_rfl,?hya11⟩) (by assumption) ?resta11
  case hya11=>(intro wx hSw;(try dsimp only at hSw);have q0:=HC0.out _ hSw;go_simp;first | done | with_reducible rfl)
  (try simp only [Act.put,List.setIfInBounds_toArray,List.set_cons_zero,List.set_cons_succ])
  refine wpAnyH_take (i:=12) (oi:=⟨some 82,_,_,_,_,_⟩) (v:=undef) rfl (by kernel_rfl) (by kernel_rfl) (by kernel_rfl) (fun _ _ _ h=>h) (Or.inr ⟨by kernel_rfl,by kernel_rfl⟩) (by assumption) ?_
  (try simp only [Act.put,List.setIfInBounds_toArray,List.set_cons_zero,List.set_cons_succ])
  refine wpAnyH_take (i:=13) (oi:=⟨some 83,_,_,_,_,_⟩) (v:=undef) rfl (by kernel_rfl) (by kernel_rfl) (by kernel_rfl) (fun _ _ _ h=>h) (Or.inr ⟨by kernel_rfl,by kernel_rfl⟩) (by assumption) ?_
  (try simp only [Act.put,List.setIfInBounds_toArray,List.set_cons_zero,List.set_cons_succ])
  refine wpAnyH_take (i:=14) (oi:=⟨some 84,_,_,_,_,_⟩) (v:=undef) rfl (by kernel_rfl) (by kernel_rfl) (by kernel_rfl) (fun _ _ _ h=>h) (Or.inr ⟨by kernel_rfl,by kernel_rfl⟩) (by assumption) ?_
  (try simp only [Act.put,List.setIfInBounds_toArray,List.set_cons_zero,List.set_cons_succ])
  refine wpAnyH_take (i:=15) (oi:=⟨some 85,_,_,_,_,_⟩) (v:=undef) rfl (by kernel_rfl) (by kernel_rfl) (by kernel_rfl) (fun _ _ _ h=>h) (Or.inr ⟨by kernel_rfl,by kernel_rfl⟩) (by assumption) ?_
  (try simp only [Act.put,List.setIfInBounds_toArray,List.set_cons_zero,List.set_cons_succ])
  refine wpAnyH_take (i:=16) (oi:=⟨some 86,_,_,_,_,_⟩) (v:=undef) rfl (by kernel_rfl) (by kernel_rfl) (by kernel_rfl) (fun _ _ _ h=>h) (Or.inr ⟨by kernel_rfl,by kernel_rfl⟩) (by assumption) ?_
  (try simp only [Act.put,List.setIfInBounds_toArray,List.set_cons_zero,List.set_cons_succ])
  refine wpAnyH_take (i:=17) (oi:=⟨some 87,_,_,_,_,_⟩) (v:=undef) rfl (by kernel_rfl) (by kernel_rfl) (by kernel_rfl) (fun _ _ _ h=>h) (Or.inr ⟨by kernel_rfl,by kernel_rfl⟩) (by assumption) ?_
  (try simp only [Act.put,List.setIfInBounds_toArray,List.set_cons_zero,List.set_cons_succ])
  refine' wpAnyH_take (i:=18) (oi:=⟨some 88,_,_,_,_,_⟩) (v:=_) rfl (by kernel_rfl) (by kernel_rfl) (by kernel_rfl) (fun _ _ _ h=>h) (Or.inl ⟨by kernel_rfl,?hya12⟩) (by assumption) ?resta12
  case hya12=>(intro wx hSw;(try dsimp only at hSw);have q0:=HC0.out _ hSw;go_simp;first | done | with_reducible rfl)
  (try simp only [Act.put,List.setIfInBounds_toArray,List.set_cons_zero,List.set_cons_succ])
  refine' wpAnyH_take (i:=19) (oi:=⟨some 89,_,_,_,_,_⟩) (v:=_) rfl (by kernel_rfl) (by kernel_rfl) (by kernel_rfl) (fun _ _ _ h=>h) (Or.inl ⟨by kernel_rfl,?hya13⟩) (by assumption) ?resta13
  case hya13=>(intro wx hSw;(try dsimp only at hSw);have q0:=HC0.out _ hSw;go_simp;first | done | with_reducible rfl)
  (try simp only [Act.put,List.setIfInBounds_toArray,List.set_cons_zero,List.set_cons_succ])
  refine wpAnyH_done (by kernel_rfl) ?_ _
  refine HK.out _ _ _ _ _ _ _ _ _ _ _ _ _ _ _ _ _ _ _ _ HQ1.out
 have hd:decide (tm<ag)=false:=decide_eq_false hlt;have hge:ag≤tm:=by omega
 rw [hd,Bool.false_or] at HAl
 cases sm with
 | false=>
   rw [Bool.false_and] at HAl
   conv=>arg 2;whnf
   refine wp_region_held_drew (S:=(fun wx=>Below wr.heap.size wr wx)) (by kernel_rfl) HQ0.out (fun hHeld=> ?_)
   generalize wr.drew=W0 at HQ0 hHeld ⊢;refine wpAnyH_to (fuel':=20) (listed':= #[false,false,false,false,false,false,false,false,false,false,false,false,false,false,false,false,false,false,false,false]) rfl rfl ?_
   refine' wpAnyH_take (i:=0) (oi:=⟨some 70,_,_,_,_,_⟩) (v:=_) rfl (by kernel_rfl) (by kernel_rfl) (by kernel_rfl) (fun _ _ _ h=>h) (Or.inl ⟨by kernel_rfl,?hyb1⟩) (by assumption) ?restb1
   case hyb1=>(intro wx hSw;(try dsimp only at hSw);have q0:=HC0.out _ hSw;go_simp;first | done | with_reducible rfl)
   (try simp only [Act.put,List.setIfInBounds_toArray,List.set_cons_zero,List.set_cons_succ])
   refine' wpAnyH_take (i:=1) (oi:=⟨some 71,_,_,_,_,_⟩) (v:=_) rfl (by kernel_rfl) (by kernel_rfl) (by kernel_rfl) (fun _ _ _ h=>h) (Or.inl ⟨by kernel_rfl,?hyb2⟩) (by assumption) ?restb2
   case hyb2=>(intro wx hSw;(try dsimp only at hSw);have q0:=HC0.out _ hSw;go_simp;first | done | with_reducible rfl)
   (try simp only [Act.put,List.setIfInBounds_toArray,List.set_cons_zero,List.set_cons_succ])
   refine' wpAnyH_take (i:=2) (oi:=⟨some 72,_,_,_,_,_⟩) (v:=_) rfl (by kernel_rfl) (by kernel_rfl) (by kernel_rfl) (fun _ _ _ h=>h) (Or.inl ⟨by kernel_rfl,?hyb3⟩) (by assumption) ?restb3
   case hyb3=>(intro wx hSw;(try dsimp only at hSw);have q0:=HC0.out _ hSw;go_simp;first | done | with_reducible rfl)
   (try simp only [Act.put,List.setIfInBounds_toArray,List.set_cons_zero,List.set_cons_succ])
   refine' wpAnyH_take (i:=3) (oi:=⟨some 73,_,_,_,_,_⟩) (v:=_) rfl (by kernel_rfl) (by kernel_rfl) (by kernel_rfl) (fun _ _ _ h=>h) (Or.inl ⟨by kernel_rfl,?hyb4⟩) (by assumption) ?restb4
   case hyb4=>(intro wx hSw;(try dsimp only at hSw);have q0:=HC0.out _ hSw;go_simp;first | done | with_reducible rfl)
   (try simp only [Act.put,List.setIfInBounds_toArray,List.set_cons_zero,List.set_cons_succ])
   refine' wpAnyH_take (i:=4) (oi:=⟨some 74,_,_,_,_,_⟩) (v:=_) rfl (by kernel_rfl) (by kernel_rfl) (by kernel_rfl) (fun _ _ _ h=>h) (Or.inl ⟨by kernel_rfl,?hyb5⟩) (by assumption) ?restb5
   case hyb5=>(intro wx hSw;(try dsimp only at hSw);have q0:=HC0.out _ hSw;go_simp;first | done | with_reducible rfl)
   (try simp only [Act.put,List.setIfInBounds_toArray,List.set_cons_zero,List.set_cons_succ])
   refine' wpAnyH_take (i:=5) (oi:=⟨some 75,_,_,_,_,_⟩) (v:=_) rfl (by kernel_rfl) (by kernel_rfl) (by kernel_rfl) (fun _ _ _ h=>h) (Or.inl ⟨by kernel_rfl,?hyb6⟩) (by assumption) ?restb6
   case hyb6=>(intro wx hSw;(try dsimp only at hSw);have q0:=HC0.out _ hSw;go_simp;first | done | with_reducible rfl)
   (try simp only [Act.put,List.setIfInBounds_toArray,List.set_cons_zero,List.set_cons_succ])
   refine' wpAnyH_take (i:=7) (oi:=⟨some 77,_,_,_,_,_⟩) (v:=_) rfl (by kernel_rfl) (by kernel_rfl) (by kernel_rfl) (fun _ _ _ h=>h) (Or.inl ⟨by kernel_rfl,?hyb7⟩) (by assumption) ?restb7
   case hyb7=>(intro wx hSw;(try dsimp only at hSw);have q0:=HC0.out _ hSw;go_simp;first | done | with_reducible rfl)
   (try simp only [Act.put,List.setIfInBounds_toArray,List.set_cons_zero,List.set_cons_succ])
   refine' wpAnyH_take (i:=8) (oi:=⟨some 78,_,_,_,_,_⟩) (v:=_) rfl (by kernel_rfl) (by kernel_rfl) (by kernel_rfl) (fun _ _ _ h=>h) (Or.inl ⟨by kernel_rfl,?hyb8⟩) (by assumption) ?restb8
   case hyb8=>(intro wx hSw;(try dsimp only at hSw);have q0:=HC0.out _ hSw;go_simp;first | done | with_reducible rfl)
   (try simp only [Act.put,List.setIfInBounds_toArray,List.set_cons_zero,List.set_cons_succ])
   refine' wpAnyH_take (i:=9) (oi:=⟨some 79,_,_,_,_,_⟩) (v:=_) rfl (by kernel_rfl) (by kernel_rfl) (by kernel_rfl) (fun _ _ _ h=>h) (Or.inl ⟨by kernel_rfl,?hyb9⟩) (by assumption) ?restb9
   case hyb9=>(intro wx hSw;(try dsimp only at hSw);have q0:=HC0.out _ hSw;go_simp;first | done | with_reducible rfl)
   (try simp only [Act.put,List.setIfInBounds_toArray,List.set_cons_zero,List.set_cons_succ])
   refine' wpAnyH_take (i:=10) (oi:=⟨some 80,_,_,_,_,_⟩) (v:=_) rfl (by kernel_rfl) (by kernel_rfl) (by kernel_rfl) (fun _ _ _ h=>h) (Or.inl ⟨by kernel_rfl,?hyb10⟩) (by assumption) ?restb10
   case hyb10=>(intro wx hSw;(try dsimp only at hSw);have q0:=HC0.out _ hSw;go_simp;first | done | with_reducible rfl)
   (try simp only [Act.put,List.setIfInBounds_toArray,List.set_cons_zero,List.set_cons_succ])
   refine wpAnyH_ready (rs:=[6]) (by kernel_rfl) (by simp) ?_
   refine AllReadyH.cons rfl (fun K9 hK=> ?_) AllReadyH.nil;rw [if_pos (by kernel_rfl)]
   go_simp
   go_wp2_with (go_at_call 36;refine (HAl.out _ HQ0.out).mono ?_;rintro e w1 ⟨rfl,hba⟩)
   have HQ1:=hid (below2 HQ0.out hba);clear hba;refine hK.out _ _ HQ1.out (fun hHeld2=> ?_);clear hK K9 hHeld
   rename _=>hHeld
   refine' wpAnyH_take (i:=11) (oi:=⟨some 81,_,_,_,_,_⟩) (v:=_) rfl (by kernel_rfl) (by kernel_rfl) (by kernel_rfl) (fun _ _ _ h=>h) (Or.inl ⟨by kernel_rfl,?hyb11⟩) (by assumption) ?restb11
   case hyb11=>(intro wx hSw;(try dsimp only at hSw);have q0:=HC0.out _ hSw;go_simp;first | done | with_reducible rfl)
   (try simp only [Act.put,List.setIfInBounds_toArray,List.set_cons_zero,List.set_cons_succ])
   refine' wpAnyH_take (i:=12) (oi:=⟨some 82,_,_,_,_,_⟩) (v:=_) rfl (by kernel_rfl) (by kernel_rfl) (by kernel_rfl) (fun _ _ _ h=>h) (Or.inl ⟨by kernel_rfl,?hyb12⟩) (by assumption) ?restb12
   case hyb12=>(intro wx hSw;(try dsimp only at hSw);have q0:=HC0.out _ hSw;go_simp;first | done | with_reducible rfl)
   (try simp only [Act.put,List.setIfInBounds_toArray,List.set_cons_zero,List.set_cons_succ])
   refine' wpAnyH_take (i:=13) (oi:=⟨some 83,_,_,_,_,_⟩) (v:=_) rfl (by kernel_rfl) (by kernel_rfl) (by kernel_rfl) (fun _ _ _ h=>h) (Or.inl ⟨by kernel_rfl,?hyb13⟩) (by assumption) ?restb13
   case hyb13=>(intro wx hSw;(try dsimp only at hSw);have q0:=HC0.out _ hSw;go_simp;first | done | with_reducible rfl)
   (try simp only [Act.put,List.setIfInBounds_toArray,List.set_cons_zero,List.set_cons_succ])
   refine wpAnyH_take (i:=14) (oi:=⟨some 84,_,_,_,_,_⟩) (v:=undef) rfl (by kernel_rfl) (by kernel_rfl) (by kernel_rfl) (fun _ _ _ h=>h) (Or.inr ⟨by kernel_rfl,by kernel_rfl⟩) (by assumption) ?_
   (try simp only [Act.put,List.setIfInBounds_toArray,List.set_cons_zero,List.set_cons_succ])
   refine wpAnyH_take (i:=15) (oi:=⟨some 85,_,_,_,_,_⟩) (v:=undef) rfl (by kernel_rfl) (by kernel_rfl) (by kernel_rfl) (fun _ _ _ h=>h) (Or.inr ⟨by kernel_rfl,by kernel_rfl⟩) (by assumption) ?_
   (try simp only [Act.put,List.setIfInBounds_toArray,List.set_cons_zero,List.set_cons_succ])
   refine wpAnyH_take (i:=16) (oi:=⟨some 86,_,_,_,_,_⟩) (v:=undef) rfl (by kernel_rfl) (by kernel_rfl) (by kernel_rfl) (fun _ _ _ h=>h) (Or.inr ⟨by kernel_rfl,by kernel_rfl⟩) (by assumption) ?_
   (try simp only [Act.put,List.setIfInBounds_toArray,List.set_cons_zero,List.set_cons_succ])
   refine' wpAnyH_take (i:=17) (oi:=⟨some 87,_,_,_,_,_⟩) (v:=_) rfl (by kernel_rfl) (by kernel_rfl) (by kernel_rfl) (fun _ _ _ h=>h) (Or.inl ⟨by kernel_rfl,?hyb14⟩) (by assumption) ?restb14
   case hyb14=>(intro wx hSw;(try dsimp only at hSw);have q0:=HC0.out _ hSw;go_simp;first | done | with_reducible rfl)
   (try simp only [Act.put,List.setIfInBounds_toArray,List.set_cons_zero,List.set_cons_succ])
   refine' wpAnyH_take (i:=18) (oi:=⟨some 88,_,_,_,_,_⟩) (v:=_) rfl (by kernel_rfl) (by kernel_rfl) (by kernel_rfl) (fun _ _ _ h=>h) (Or.inl ⟨by kernel_rfl,?hyb15⟩) (by assumption) ?restb15
   case hyb15=>(intro wx hSw;(try dsimp only at hSw);have q0:=HC0.out _ hSw;go_simp;first | done | with_reducible rfl)
   (try simp only [Act.put,List.setIfInBounds_toArray,List.set_cons_zero,List.set_cons_succ])
   refine' wpAnyH_take (i:=19) (oi:=⟨some 89,_,_,_,_,_⟩) (v:=_) rfl (by kernel_rfl) (by kernel_rfl) (by kernel_rfl) (fun _ _ _ h=>h) (Or.inl ⟨by kernel_rfl,?hyb16⟩) (by assumption) ?restb16
   case hyb16=>(intro wx hSw;(try dsimp only at hSw);have q0:=HC0.out _ hSw;go_simp;first | done | with_reducible rfl)
   (try simp only [Act.put,List.setIfInBounds_toArray,List.set_cons_zero,List.set_cons_succ])
   refine wpAnyH_done (by kernel_rfl) ?_ _
   refine HK.out _ _ _ _ _ _ _ _ _ _ _ _ _ _ _ _ _ _ _ _ HQ1.out
 | true=>
   rw [Bool.true_and] at HAl;by_cases hq:qn=0
   ·subst hq
    simp only [decide_true] at HAl
    conv=>arg 2;whnf
    refine wp_region_held_drew (S:=(fun wx=>Below wr.heap.size wr wx)) (by kernel_rfl) HQ0.out (fun hHeld=> ?_)
    generalize wr.drew=W0 at HQ0 hHeld ⊢;refine wpAnyH_to (fuel':=20) (listed':= #[false,false,false,false,false,false,false,false,false,false,false,false,false,false,false,false,false,false,false,false]) rfl rfl ?_
    refine' wpAnyH_take (i:=0) (oi:=⟨some 70,_,_,_,_,_⟩) (v:=_) rfl (by kernel_rfl) (by kernel_rfl) (by kernel_rfl) (fun _ _ _ h=>h) (Or.inl ⟨by kernel_rfl,?hyc1⟩) (by assumption) ?restc1
    case hyc1=>(intro wx hSw;(try dsimp only at hSw);have q0:=HC0.out _ hSw;go_simp;first | done | with_reducible rfl)
    (try simp only [Act.put,List.setIfInBounds_toArray,List.set_cons_zero,List.set_cons_succ])
    refine' wpAnyH_take (i:=1) (oi:=⟨some 71,_,_,_,_,_⟩) (v:=_) rfl (by kernel_rfl) (by kernel_rfl) (by kernel_rfl) (fun _ _ _ h=>h) (Or.inl ⟨by kernel_rfl,?hyc2⟩) (by assumption) ?restc2
    case hyc2=>(intro wx hSw;(try dsimp only at hSw);have q0:=HC0.out _ hSw;go_simp;first | done | with_reducible rfl)
    (try simp only [Act.put,List.setIfInBounds_toArray,List.set_cons_zero,List.set_cons_succ])
    refine' wpAnyH_take (i:=2) (oi:=⟨some 72,_,_,_,_,_⟩) (v:=_) rfl (by kernel_rfl) (by kernel_rfl) (by kernel_rfl) (fun _ _ _ h=>h) (Or.inl ⟨by kernel_rfl,?hyc3⟩) (by assumption) ?restc3
    case hyc3=>(intro wx hSw;(try dsimp only at hSw);have q0:=HC0.out _ hSw;go_simp;first | done | with_reducible rfl)
    (try simp only [Act.put,List.setIfInBounds_toArray,List.set_cons_zero,List.set_cons_succ])
    refine' wpAnyH_take (i:=3) (oi:=⟨some 73,_,_,_,_,_⟩) (v:=_) rfl (by kernel_rfl) (by kernel_rfl) (by kernel_rfl) (fun _ _ _ h=>h) (Or.inl ⟨by kernel_rfl,?hyc4⟩) (by assumption) ?restc4
    case hyc4=>(intro wx hSw;(try dsimp only at hSw);have q0:=HC0.out _ hSw;go_simp;first | done | with_reducible rfl)
    (try simp only [Act.put,List.setIfInBounds_toArray,List.set_cons_zero,List.set_cons_succ])
    refine' wpAnyH_take (i:=4) (oi:=⟨some 74,_,_,_,_,_⟩) (v:=_) rfl (by kernel_rfl) (by kernel_rfl) (by kernel_rfl) (fun _ _ _ h=>h) (Or.inl ⟨by kernel_rfl,?hyc5⟩) (by assumption) ?restc5
    case hyc5=>(intro wx hSw;(try dsimp only at hSw);have q0:=HC0.out _ hSw;go_simp;first | done | with_reducible rfl)
    (try simp only [Act.put,List.setIfInBounds_toArray,List.set_cons_zero,List.set_cons_succ])
    refine' wpAnyH_take (i:=5) (oi:=⟨some 75,_,_,_,_,_⟩) (v:=_) rfl (by kernel_rfl) (by kernel_rfl) (by kernel_rfl) (fun _ _ _ h=>h) (Or.inl ⟨by kernel_rfl,?hyc6⟩) (by assumption) ?restc6
    case hyc6=>(intro wx hSw;(try dsimp only at hSw);have q0:=HC0.out _ hSw;go_simp;first | done | with_reducible rfl)
    (try simp only [Act.put,List.setIfInBounds_toArray,List.set_cons_zero,List.set_cons_succ])
    refine' wpAnyH_take (i:=7) (oi:=⟨some 77,_,_,_,_,_⟩) (v:=_) rfl (by kernel_rfl) (by kernel_rfl) (by kernel_rfl) (fun _ _ _ h=>h) (Or.inl ⟨by kernel_rfl,?hyc7⟩) (by assumption) ?restc7
    case hyc7=>(intro wx hSw;(try dsimp only at hSw);have q0:=HC0.out _ hSw;go_simp;first | done | with_reducible rfl)
    (try simp only [Act.put,List.setIfInBounds_toArray,List.set_cons_zero,List.set_cons_succ])
    refine' wpAnyH_take (i:=8) (oi:=⟨some 78,_,_,_,_,_⟩) (v:=_) rfl (by kernel_rfl) (by kernel_rfl) (by kernel_rfl) (fun _ _ _ h=>h) (Or.inl ⟨by kernel_rfl,?hyc8⟩) (by assumption) ?restc8
    case hyc8=>(intro wx hSw;(try dsimp only at hSw);have q0:=HC0.out _ hSw;go_simp;first | done | with_reducible rfl)
    (try simp only [Act.put,List.setIfInBounds_toArray,List.set_cons_zero,List.set_cons_succ])
    refine' wpAnyH_take (i:=9) (oi:=⟨some 79,_,_,_,_,_⟩) (v:=_) rfl (by kernel_rfl) (by kernel_rfl) (by kernel_rfl) (fun _ _ _ h=>h) (Or.inl ⟨by kernel_rfl,?hyc9⟩) (by assumption) ?restc9
    case hyc9=>(intro wx hSw;(try dsimp only at hSw);have q0:=HC0.out _ hSw;go_simp;first | done | with_reducible rfl)
    (try simp only [Act.put,List.setIfInBounds_toArray,List.set_cons_zero,List.set_cons_succ])
    refine' wpAnyH_take (i:=10) (oi:=⟨some 80,_,_,_,_,_⟩) (v:=_) rfl (by kernel_rfl) (by kernel_rfl) (by kernel_rfl) (fun _ _ _ h=>h) (Or.inl ⟨by kernel_rfl,?hyc10⟩) (by assumption) ?restc10
    case hyc10=>(intro wx hSw;(try dsimp only at hSw);have q0:=HC0.out _ hSw;go_simp;first | done | with_reducible rfl)
    (try simp only [Act.put,List.setIfInBounds_toArray,List.set_cons_zero,List.set_cons_succ])
    refine wpAnyH_ready (rs:=[6]) (by kernel_rfl) (by simp) ?_
    refine AllReadyH.cons rfl (fun K9 hK=> ?_) AllReadyH.nil;rw [if_pos (by kernel_rfl)]
    go_simp
    go_wp2_with (go_at_call 36;refine (HAl.out _ HQ0.out).mono ?_;rintro e w1 ⟨rfl,hba⟩)
    have HQ1:=hid (below2 HQ0.out hba);clear hba;refine hK.out _ _ HQ1.out (fun hHeld2=> ?_);clear hK K9 hHeld
    rename _=>hHeld
    refine' wpAnyH_take (i:=11) (oi:=⟨some 81,_,_,_,_,_⟩) (v:=_) rfl (by kernel_rfl) (by kernel_rfl) (by kernel_rfl) (fun _ _ _ h=>h) (Or.inl ⟨by kernel_rfl,?hyc11⟩) (by assumption) ?restc11
    case hyc11=>(intro wx hSw;(try dsimp only at hSw);have q0:=HC0.out _ hSw;go_simp;first | done | with_reducible rfl)
    (try simp only [Act.put,List.setIfInBounds_toArray,List.set_cons_zero,List.set_cons_succ])
    refine' wpAnyH_take (i:=12) (oi:=⟨some 82,_,_,_,_,_⟩) (v:=_) rfl (by kernel_rfl) (by kernel_rfl) (by kernel_rfl) (fun _ _ _ h=>h) (Or.inl ⟨by kernel_rfl,?hyc12⟩) (by assumption) ?restc12
    case hyc12=>(intro wx hSw;(try dsimp only at hSw);have q0:=HC0.out _ hSw;go_simp;first | done | with_reducible rfl)
    (try simp only [Act.put,List.setIfInBounds_toArray,List.set_cons_zero,List.set_cons_succ])
    refine' wpAnyH_take (i:=13) (oi:=⟨some 83,_,_,_,_,_⟩) (v:=_) rfl (by kernel_rfl) (by kernel_rfl) (by kernel_rfl) (fun _ _ _ h=>h) (Or.inl ⟨by kernel_rfl,?hyc13⟩) (by assumption) ?restc13
    case hyc13=>(intro wx hSw;(try dsimp only at hSw);have q0:=HC0.out _ hSw;go_simp;first | done | with_reducible rfl)
    (try simp only [Act.put,List.setIfInBounds_toArray,List.set_cons_zero,List.set_cons_succ])
    refine' wpAnyH_take (i:=14) (oi:=⟨some 84,_,_,_,_,_⟩) (v:=_) rfl (by kernel_rfl) (by kernel_rfl) (by kernel_rfl) (fun _ _ _ h=>h) (Or.inl ⟨by kernel_rfl,?hyc14⟩) (by assumption) ?restc14
    case hyc14=>(intro wx hSw;(try dsimp only at hSw);have q0:=HC0.out _ hSw;go_simp;first | done | with_reducible rfl)
    (try simp only [Act.put,List.setIfInBounds_toArray,List.set_cons_zero,List.set_cons_succ])
    refine' wpAnyH_take (i:=15) (oi:=⟨some 85,_,_,_,_,_⟩) (v:=_) rfl (by kernel_rfl) (by kernel_rfl) (by kernel_rfl) (fun _ _ _ h=>h) (Or.inl ⟨by kernel_rfl,?hyc15⟩) (by assumption) ?restc15
    case hyc15=>(intro wx hSw;(try dsimp only at hSw);have q0:=HC0.out _ hSw;go_simp;first | done | with_reducible rfl)
    (try simp only [Act.put,List.setIfInBounds_toArray,List.set_cons_zero,List.set_cons_succ])
    refine' wpAnyH_take (i:=16) (oi:=⟨some 86,_,_,_,_,_⟩) (v:=_) rfl (by kernel_rfl) (by kernel_rfl) (by kernel_rfl) (fun _ _ _ h=>h) (Or.inl ⟨by kernel_rfl,?hyc16⟩) (by assumption) ?restc16
    case hyc16=>(intro wx hSw;(try dsimp only at hSw);have q0:=HC0.out _ hSw;go_simp;first | done | with_reducible rfl)
    (try simp only [Act.put,List.setIfInBounds_toArray,List.set_cons_zero,List.set_cons_succ])
    refine' wpAnyH_take (i:=17) (oi:=⟨some 87,_,_,_,_,_⟩) (v:=_) rfl (by kernel_rfl) (by kernel_rfl) (by kernel_rfl) (fun _ _ _ h=>h) (Or.inl ⟨by kernel_rfl,?hyc17⟩) (by assumption) ?restc17
    case hyc17=>(intro wx hSw;(try dsimp only at hSw);have q0:=HC0.out _ hSw;go_simp;first | done | with_reducible rfl)
    (try simp only [Act.put,List.setIfInBounds_toArray,List.set_cons_zero,List.set_cons_succ])
    refine' wpAnyH_take (i:=18) (oi:=⟨some 88,_,_,_,_,_⟩) (v:=_) rfl (by kernel_rfl) (by kernel_rfl) (by kernel_rfl) (fun _ _ _ h=>h) (Or.inl ⟨by kernel_rfl,?hyc18⟩) (by assumption) ?restc18
    case hyc18=>(intro wx hSw;(try dsimp only at hSw);have q0:=HC0.out _ hSw;go_simp;first | done | with_reducible rfl)
    (try simp only [Act.put,List.setIfInBounds_toArray,List.set_cons_zero,List.set_cons_succ])
    refine' wpAnyH_take (i:=19) (oi:=⟨some 89,_,_,_,_,_⟩) (v:=_) rfl (by kernel_rfl) (by kernel_rfl) (by kernel_rfl) (fun _ _ _ h=>h) (Or.inl ⟨by kernel_rfl,?hyc19⟩) (by assumption) ?restc19
    case hyc19=>(intro wx hSw;(try dsimp only at hSw);have q0:=HC0.out _ hSw;go_simp;first | done | with_reducible rfl)
    (try simp only [Act.put,List.setIfInBounds_toArray,List.set_cons_zero,List.set_cons_succ])
    refine wpAnyH_done (by kernel_rfl) ?_ _
    refine HK.out _ _ _ _ _ _ _ _ _ _ _ _ _ _ _ _ _ _ _ _ HQ1.out
   ·rw [decide_eq_false hq] at HAl
    have hqi: ¬ (qn:Int)=0:=by omega
    have hqd:decide ((qn:Int)=0)=false:=decide_eq_false hqi;have hqb:(qn==0)=false:=by simpa using hq
    have hqe:((qn:Int)==0)=false:=by simpa using hqi
    conv=>arg 2;whnf
    refine wp_region_held_drew (S:=(fun wx=>Below wr.heap.size wr wx)) (by kernel_rfl) HQ0.out (fun hHeld=> ?_)
    generalize wr.drew=W0 at HQ0 hHeld ⊢;refine wpAnyH_to (fuel':=20) (listed':= #[false,false,false,false,false,false,false,false,false,false,false,false,false,false,false,false,false,false,false,false]) rfl rfl ?_
    refine' wpAnyH_take (i:=0) (oi:=⟨some 70,_,_,_,_,_⟩) (v:=_) rfl (by kernel_rfl) (by kernel_rfl) (by kernel_rfl) (fun _ _ _ h=>h) (Or.inl ⟨by kernel_rfl,?hyd1⟩) (by assumption) ?restd1
    case hyd1=>(intro wx hSw;(try dsimp only at hSw);have q0:=HC0.out _ hSw;go_simp;first | done | with_reducible rfl)
    (try simp only [Act.put,List.setIfInBounds_toArray,List.set_cons_zero,List.set_cons_succ])
    refine' wpAnyH_take (i:=1) (oi:=⟨some 71,_,_,_,_,_⟩) (v:=_) rfl (by kernel_rfl) (by kernel_rfl) (by kernel_rfl) (fun _ _ _ h=>h) (Or.inl ⟨by kernel_rfl,?hyd2⟩) (by assumption) ?restd2
    case hyd2=>(intro wx hSw;(try dsimp only at hSw);have q0:=HC0.out _ hSw;go_simp;first | done | with_reducible rfl)
    (try simp only [Act.put,List.setIfInBounds_toArray,List.set_cons_zero,List.set_cons_succ])
    refine' wpAnyH_take (i:=2) (oi:=⟨some 72,_,_,_,_,_⟩) (v:=_) rfl (by kernel_rfl) (by kernel_rfl) (by kernel_rfl) (fun _ _ _ h=>h) (Or.inl ⟨by kernel_rfl,?hyd3⟩) (by assumption) ?restd3
    case hyd3=>(intro wx hSw;(try dsimp only at hSw);have q0:=HC0.out _ hSw;go_simp;first | done | with_reducible rfl)
    (try simp only [Act.put,List.setIfInBounds_toArray,List.set_cons_zero,List.set_cons_succ])
    refine' wpAnyH_take (i:=3) (oi:=⟨some 73,_,_,_,_,_⟩) (v:=_) rfl (by kernel_rfl) (by kernel_rfl) (by kernel_rfl) (fun _ _ _ h=>h) (Or.inl ⟨by kernel_rfl,?hyd4⟩) (by assumption) ?restd4
    case hyd4=>(intro wx hSw;(try dsimp only at hSw);have q0:=HC0.out _ hSw;go_simp;first | done | with_reducible rfl)
    (try simp only [Act.put,List.setIfInBounds_toArray,List.set_cons_zero,List.set_cons_succ])
    refine' wpAnyH_take (i:=4) (oi:=⟨some 74,_,_,_,_,_⟩) (v:=_) rfl (by kernel_rfl) (by kernel_rfl) (by kernel_rfl) (fun _ _ _ h=>h) (Or.inl ⟨by kernel_rfl,?hyd5⟩) (by assumption) ?restd5
    case hyd5=>(intro wx hSw;(try dsimp only at hSw);have q0:=HC0.out _ hSw;go_simp;first | done | with_reducible rfl)
    (try simp only [Act.put,List.setIfInBounds_toArray,List.set_cons_zero,List.set_cons_succ])
    refine' wpAnyH_take (i:=5) (oi:=⟨some 75,_,_,_,_,_⟩) (v:=_) rfl (by kernel_rfl) (by kernel_rfl) (by kernel_rfl) (fun _ _ _ h=>h) (Or.inl ⟨by kernel_rfl,?hyd6⟩) (by assumption) ?restd6
    case hyd6=>(intro wx hSw;(try dsimp only at hSw);have q0:=HC0.out _ hSw;go_simp;first | done | with_reducible rfl)
    (try simp only [Act.put,List.setIfInBounds_toArray,List.set_cons_zero,List.set_cons_succ])
    refine' wpAnyH_take (i:=7) (oi:=⟨some 77,_,_,_,_,_⟩) (v:=_) rfl (by kernel_rfl) (by kernel_rfl) (by kernel_rfl) (fun _ _ _ h=>h) (Or.inl ⟨by kernel_rfl,?hyd7⟩) (by assumption) ?restd7
    case hyd7=>(intro wx hSw;(try dsimp only at hSw);have q0:=HC0.out _ hSw;go_simp;first | done | with_reducible rfl)
    (try simp only [Act.put,List.setIfInBounds_toArray,List.set_cons_zero,List.set_cons_succ])
    refine' wpAnyH_take (i:=8) (oi:=⟨some 78,_,_,_,_,_⟩) (v:=_) rfl (by kernel_rfl) (by kernel_rfl) (by kernel_rfl) (fun _ _ _ h=>h) (Or.inl ⟨by kernel_rfl,?hyd8⟩) (by assumption) ?restd8
    case hyd8=>(intro wx hSw;(try dsimp only at hSw);have q0:=HC0.out _ hSw;go_simp;first | done | with_reducible rfl)
    (try simp only [Act.put,List.setIfInBounds_toArray,List.set_cons_zero,List.set_cons_succ])
    refine' wpAnyH_take (i:=9) (oi:=⟨some 79,_,_,_,_,_⟩) (v:=_) rfl (by kernel_rfl) (by kernel_rfl) (by kernel_rfl) (fun _ _ _ h=>h) (Or.inl ⟨by kernel_rfl,?hyd9⟩) (by assumption) ?restd9
    case hyd9=>(intro wx hSw;(try dsimp only at hSw);have q0:=HC0.out _ hSw;go_simp;first | done | with_reducible rfl)
    (try simp only [Act.put,List.setIfInBounds_toArray,List.set_cons_zero,List.set_cons_succ])
    refine' wpAnyH_take (i:=10) (oi:=⟨some 80,_,_,_,_,_⟩) (v:=_) rfl (by kernel_rfl) (by kernel_rfl) (by kernel_rfl) (fun _ _ _ h=>h) (Or.inl ⟨by kernel_rfl,?hyd10⟩) (by assumption) ?restd10
    case hyd10=>(intro wx hSw;(try dsimp only at hSw);have q0:=HC0.out _ hSw;go_simp;first | done | with_reducible rfl)
    (try simp only [Act.put,List.setIfInBounds_toArray,List.set_cons_zero,List.set_cons_succ])
    refine wpAnyH_ready (rs:=[6]) (by kernel_rfl) (by simp) ?_
    refine AllReadyH.cons rfl (fun K9 hK=> ?_) AllReadyH.nil;rw [if_pos (by kernel_rfl)]
    go_simp
    go_wp2_with (go_at_call 36;refine (HAl.out _ HQ0.out).mono ?_;rintro e w1 ⟨rfl,hba⟩)
    have HQ1:=hid (below2 HQ0.out hba);clear hba;refine hK.out _ _ HQ1.out (fun hHeld2=> ?_);clear hK K9 hHeld
    rename _=>hHeld
    refine' wpAnyH_take (i:=11) (oi:=⟨some 81,_,_,_,_,_⟩) (v:=_) rfl (by kernel_rfl) (by kernel_rfl) (by kernel_rfl) (fun _ _ _ h=>h) (Or.inl ⟨by kernel_rfl,?hyd11⟩) (by assumption) ?restd11
    case hyd11=>(intro wx hSw;(try dsimp only at hSw);have q0:=HC0.out _ hSw;go_simp;first | done | with_reducible rfl)
    (try simp only [Act.put,List.setIfInBounds_toArray,List.set_cons_zero,List.set_cons_succ])
    refine' wpAnyH_take (i:=12) (oi:=⟨some 82,_,_,_,_,_⟩) (v:=_) rfl (by kernel_rfl) (by kernel_rfl) (by kernel_rfl) (fun _ _ _ h=>h) (Or.inl ⟨by kernel_rfl,?hyd12⟩) (by assumption) ?restd12
    case hyd12=>(intro wx hSw;(try dsimp only at hSw);have q0:=HC0.out _ hSw;go_simp;first | done | with_reducible rfl)
    (try simp only [Act.put,List.setIfInBounds_toArray,List.set_cons_zero,List.set_cons_succ])
    refine' wpAnyH_take (i:=13) (oi:=⟨some 83,_,_,_,_,_⟩) (v:=_) rfl (by kernel_rfl) (by kernel_rfl) (by kernel_rfl) (fun _ _ _ h=>h) (Or.inl ⟨by kernel_rfl,?hyd13⟩) (by assumption) ?restd13
    case hyd13=>(intro wx hSw;(try dsimp only at hSw);have q0:=HC0.out _ hSw;go_simp;first | done | with_reducible rfl)
    (try simp only [Act.put,List.setIfInBounds_toArray,List.set_cons_zero,List.set_cons_succ])
    refine' wpAnyH_take (i:=14) (oi:=⟨some 84,_,_,_,_,_⟩) (v:=_) rfl (by kernel_rfl) (by kernel_rfl) (by kernel_rfl) (fun _ _ _ h=>h) (Or.inl ⟨by kernel_rfl,?hyd14⟩) (by assumption) ?restd14
    case hyd14=>(intro wx hSw;(try dsimp only at hSw);have q0:=HC0.out _ hSw;go_simp;first | done | with_reducible rfl)
    (try simp only [Act.put,List.setIfInBounds_toArray,List.set_cons_zero,List.set_cons_succ])
    refine' wpAnyH_take (i:=15) (oi:=⟨some 85,_,_,_,_,_⟩) (v:=_) rfl (by kernel_rfl) (by kernel_rfl) (by kernel_rfl) (fun _ _ _ h=>h) (Or.inl ⟨by kernel_rfl,?hyd15⟩) (by assumption) ?restd15
    case hyd15=>(intro wx hSw;(try dsimp only at hSw);have q0:=HC0.out _ hSw;go_simp;first | done | with_reducible rfl)
    (try simp only [Act.put,List.setIfInBounds_toArray,List.set_cons_zero,List.set_cons_succ])
    refine' wpAnyH_take (i:=16) (oi:=⟨some 86,_,_,_,_,_⟩) (v:=_) rfl (by kernel_rfl) (by kernel_rfl) (by kernel_rfl) (fun _ _ _ h=>h) (Or.inl ⟨by kernel_rfl,?hyd16⟩) (by assumption) ?restd16
    case hyd16=>(intro wx hSw;(try dsimp only at hSw);have q0:=HC0.out _ hSw;go_simp;first | done | with_reducible rfl)
    (try simp only [Act.put,List.setIfInBounds_toArray,List.set_cons_zero,List.set_cons_succ])
    refine' wpAnyH_take (i:=17) (oi:=⟨some 87,_,_,_,_,_⟩) (v:=_) rfl (by kernel_rfl) (by kernel_rfl) (by kernel_rfl) (fun _ _ _ h=>h) (Or.inl ⟨by kernel_rfl,?hyd17⟩) (by assumption) ?restd17
    case hyd17=>(intro wx hSw;(try dsimp only at hSw);have q0:=HC0.out _ hSw;go_simp;first | done | with_reducible rfl)
    (try simp only [Act.put,List.setIfInBounds_toArray,List.set_cons_zero,List.set_cons_succ])
    refine' wpAnyH_take (i:=18) (oi:=⟨some 88,_,_,_,_,_⟩) (v:=_) rfl (by kernel_rfl) (by kernel_rfl) (by kernel_rfl) (fun _ _ _ h=>h) (Or.inl ⟨by kernel_rfl,?hyd18⟩) (by assumption) ?restd18
    case hyd18=>(intro wx hSw;(try dsimp only at hSw);have q0:=HC0.out _ hSw;go_simp;first | done | with_reducible rfl)
    (try simp only [Act.put,List.setIfInBounds_toArray,List.set_cons_zero,List.set_cons_succ])
    refine' wpAnyH_take (i:=19) (oi:=⟨some 89,_,_,_,_,_⟩) (v:=_) rfl (by kernel_rfl) (by kernel_rfl) (by kernel_rfl) (fun _ _ _ h=>h) (Or.inl ⟨by kernel_rfl,?hyd19⟩) (by assumption) ?restd19
    case hyd19=>(intro wx hSw;(try dsimp only at hSw);have q0:=HC0.out _ hSw;go_simp;first | done | with_reducible rfl)
    (try simp only [Act.put,List.setIfInBounds_toArray,List.set_cons_zero,List.set_cons_succ])
    refine wpAnyH_done (by kernel_rfl) ?_ _
    refine HK.out _ _ _ _ _ _ _ _ _ _ _ _ _ _ _ _ _ _ _ _ HQ1.out

end Go.Proofs.YtolioccofbhliaaGreatDoor

namespace Go.Proofs.YtolioccofbhliaaGreatDoor
theorem hexD_facts: ∀ k,k<16→is16I (hexD k).toNat=true∧val16I (hexD k).toNat=k:=by decide +kernel

theorem unpct_esc (c:UInt8) (r:List UInt8):unpct (esc c++r)=c::unpct r:=by
 have hc:=c.toNat_lt;have h1:=hexD_facts (c.toNat / 16) (by omega)
 have h2:=hexD_facts (c.toNat % 16) (by omega)
 have e:pcd (37::hexD (c.toNat / 16)::hexD (c.toNat % 16)::r)=(c,true):=by
  rw [pcd_three,h1.1,h2.1,h1.2,h2.2]
  simp only [Bool.and_self,if_true]
  congr 1
  apply UInt8.toNat_inj.1;simp;omega
 show unpct (37::(hexD (c.toNat / 16)::hexD (c.toNat % 16)::r))=_;rw [unpct_cons,e]
 rfl

end Go.Proofs.YtolioccofbhliaaGreatDoor
