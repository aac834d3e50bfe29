/-
  Walks and plain facts that this claim leans on, put together out of 8 texts: Bksl, Bksf, Bksk, Bksg, Bksr, Bksq, Bksa, Bkses.
-/
import Derived.Test.YtolioccofbhliaaGreatDoorProg
import Derived.Test.YtolioccofbhliaaGreatDoorQp1
import Derived.Test.YtolioccofbhliaaGreatDoorQp2
import Derived.Test.YtolioccofbhliaaGreatDoorQp3
import Derived.Test.YtolioccofbhliaaGreatDoorQp4
import Derived.Test.YtolioccofbhliaaGreatDoorQp5
import Derived.Test.YtolioccofbhliaaGreatDoorQp6
import Derived.Test.YtolioccofbhliaaGreatDoorQp7
import Derived.Test.YtolioccofbhliaaGreatDoorQp8
import Derived.Test.YtolioccofbhliaaGreatDoorQp9
import Derived.Test.YtolioccofbhliaaGreatDoorQp10
import Derived.Test.YtolioccofbhliaaGreatDoorQp11
import Derived.Test.YtolioccofbhliaaGreatDoorQp12
import Derived.Test.YtolioccofbhliaaGreatDoorQp13
import Derived.Test.YtolioccofbhliaaGreatDoorQp14
import Derived.Test.YtolioccofbhliaaGreatDoorQp15
import Derived.Test.YtolioccofbhliaaGreatDoorQp16
import Derived.Test.YtolioccofbhliaaGreatDoorQp17
import Derived.Test.YtolioccofbhliaaGreatDoorQp18
import Derived.Test.YtolioccofbhliaaGreatDoorQp19
import Derived.Test.YtolioccofbhliaaGreatDoorQp20
import Derived.Test.YtolioccofbhliaaGreatDoorQp21
import Derived.Test.YtolioccofbhliaaGreatDoorQp22
import Derived.Test.YtolioccofbhliaaGreatDoorQp23
import Derived.Test.YtolioccofbhliaaGreatDoorQp24
import Derived.Test.YtolioccofbhliaaGreatDoorQp25
import Derived.Test.YtolioccofbhliaaGreatDoorQp26
import Derived.Test.YtolioccofbhliaaGreatDoorQp27
import Derived.Test.YtolioccofbhliaaGreatDoorQp28
import Derived.Test.YtolioccofbhliaaGreatDoorQk1
import Derived.Deep.RegionLaw
import Derived.Deep.RegionHeld
import Derived.Deep.QuietTactic
import Derived.BigQuiet
import Derived.BigRegion
import Derived.WalkKit
import Derived.WalkSpells
import Derived.WalkLawsBesides
import Derived.Laws.CopyOwn
import Derived.Laws.ResultCell
import Derived.Deep.MidRow
import Derived.Lib.LaidTab
import Derived.Lib.SmallJoins
import Derived.Laws.BitsAll
import Derived.Lib.Strings
import Derived.Lib.UnsafeStr
import Derived.Laws.IdiomStrings
import Derived.Laws.AppendOwn
import Derived.Lib.BufferRead
import Derived.Lib.RuneBytes
import Derived.Laws.RangeAny
import Derived.Laws.OwnMore
import Derived.Below
import Derived.WalkSmall
import Derived.Lib.BufferMore
import Derived.Lib.FrozenHead2
import Derived.Lib.OthersKept
import Derived.Lib.Builder
set_option linter.unusedSimpArgs false
set_option linter.unusedVariables false

namespace Go.Proofs.YtolioccofbhliaaGreatDoor
open Go.RowKit

def lenAts (w:World) (p:Nat):Nat:=(match (w.cell? ⟨p,0,none⟩).getD (.bool false) with | .slice _ n _=>n | _=>0)

def KPs (w:World) (B p:Nat) (zs:List Value):Prop:= ∃ (h:Int) (A Y:Value) (xs ys:List Value) (k:Nat),(k<zs.length∧xs=zs.drop k)∧Bks w B p h A Y xs ys

noncomputable def kbls : Code := ((Tryz.f41.body.map loopsOf).getD []).getD 0 .skip

set_option maxHeartbeats 4000000 in
set_option maxRecDepth 100000 in
theorem kloops (B p:Nat) (zs:List Value) (w W:World) (K:Act→World→Prop) (t1 t2 t3 t4 t5 t6 t7 t8 t9 t10 t11 t12 t13 t14 t15 t16 t17 t18 t19 t20 t21 t22 t23 t24 t25 t26 t27 t28 t29 t30 t31 t32 t33 t34 t35 t36 t37 t38 t39 t40 t41 t42 t43 t44 t45 t46 t47 t48 t49 t50 t51 t52 t53 t54 t55 t56 t57 t58 t59 t60 t61 t62 t63 t64 t65 t66 t67 t68 t69 t70 t71 t72 t73 t74 t75 t76 t77 t78 t79 t80 t81 t82 t83 t84 t85 t86 t87 t88 t89 t90 t91 t92 t93 t94 t95 t96 t97 t98 t99 t100 t101 t102 t103 t104 t105 t106 t107 t108 t109 t110 t111:Value) (hzl:zs.length≤201) (HB0:Hid (KPs W B p zs)) (HBP:Hid (B≤p)) (HL0:Hid (Bt 50 p B w W))
 (HK:Hid (∀ (u36 u37 u38 u39 u40 u41 u42 u43 u44 u45 u46 u47 u48 u49 u50 u51 u52 u53 u54 u55 u56 u57 u58 u59 u60 u61 u62 u63 u64 u65 u66 u67 u68 u69 u70 u71 u72 u73 u74 u75 u76 u77 u78 u79 u80 u81 u82 u83 u84 u85 u86 u87 u88 u89 u90 u91 u92 u93 u94 u95 u96 u97 u98 u99 u100 u101 u102 u103 u104 u105 u106 u107 u108 u109 u110 u111:Value) (w2:World),KPs w2 B p zs→Bt 50 p B w w2→K ⟨#[.pointer (some ⟨p,0,none⟩),t1,t2,t3,t4,t5,t6,t7,t8,t9,t10,t11,t12,t13,t14,t15,t16,t17,t18,t19,t20,t21,t22,t23,t24,t25,t26,t27,t28,t29,t30,t31,t32,t33,t34,t35,u36,u37,u38,u39,u40,u41,u42,u43,u44,u45,u46,u47,u48,u49,u50,u51,u52,u53,u54,u55,u56,u57,u58,u59,u60,u61,u62,u63,u64,u65,u66,u67,u68,u69,u70,u71,u72,u73,u74,u75,u76,u77,u78,u79,u80,u81,u82,u83,u84,u85,u86,u87,u88,u89,u90,u91,u92,u93,u94,u95,u96,u97,u98,u99,u100,u101,u102,u103,u104,u105,u106,u107,u108,u109,u110,u111],[]⟩ w2)):
 Code.wp Tryz.prog (.loop kbls) (exit0 K) ⟨#[.pointer (some ⟨p,0,none⟩),t1,t2,t3,t4,t5,t6,t7,t8,t9,t10,t11,t12,t13,t14,t15,t16,t17,t18,t19,t20,t21,t22,t23,t24,t25,t26,t27,t28,t29,t30,t31,t32,t33,t34,t35,t36,t37,t38,t39,t40,t41,t42,t43,t44,t45,t46,t47,t48,t49,t50,t51,t52,t53,t54,t55,t56,t57,t58,t59,t60,t61,t62,t63,t64,t65,t66,t67,t68,t69,t70,t71,t72,t73,t74,t75,t76,t77,t78,t79,t80,t81,t82,t83,t84,t85,t86,t87,t88,t89,t90,t91,t92,t93,t94,t95,t96,t97,t98,t99,t100,t101,t102,t103,t104,t105,t106,t107,t108,t109,t110,t111],[]⟩ W:=by
 conv=>arg 2;whnf
 conv=>arg 2;arg 1;whnf
 conv=>arg 4;dsimp only
 go_loopw [36] (fun _ wr=>Hid (KPs wr B p zs)∧Hid (Bt 50 p B w wr)) (fun _ wr=>lenAts wr p)
 case atStart=>exact ⟨HB0.out,HL0.out⟩
 case round=>
  clear HB0 HL0;obtain ⟨⟨h',A',Y',xs',ys',k,⟨hkl,hxe⟩,HBV⟩,HBL⟩:=hrel
  have HKL:=hid hkl;clear hkl;have HXE:=hid hxe;have hxl:xs'.length≤201:=by rw [hxe];simp;omega
  clear hxe;by_cases h1:1<xs'.length
  ·obtain ⟨a,xs2,rfl⟩: ∃ a t,xs'=a::t:=by
    cases xs' with
    | nil=>simp at h1
    | cons a t=>exact ⟨a,t,rfl⟩
   obtain ⟨y,ys2,rfl⟩: ∃ a t,ys'=a::t:=by
    have:=HBV.2.1
    cases ys' with
    | nil=>simp at this
    | cons a t=>exact ⟨a,t,rfl⟩
   obtain ⟨gA,oA,cA,rfl,hcA,qA⟩:=HBV.2.2.2.1.cell 0 (by simp)
   obtain ⟨gY,oY,cY,rfl,hcY,qY⟩:=HBV.2.2.2.2.1.cell 0 (by simp)
   obtain ⟨mn,M,hM,hMx,hMy⟩:=HBV.2.2.2.2.2.2.1 0 a y rfl rfl
   obtain ⟨xa,xc,rfl,_,_⟩:=hMx.slice
   obtain ⟨ya,yc',rfl,_,_⟩:=hMy.slice
   have q1:wr.cell? ⟨gA,oA,none⟩=some (.slice xa mn xc):=qA
   have q2:wr.cell? ⟨gY,oY,none⟩=some (.slice ya mn yc'):=qY
   have HSAME:=hid (fun (Z:World) (hZ:Below wr.heap.size wr Z)=>bsames (.slice xa mn xc) (.slice ya mn yc') mn M B Z (hMx.below hZ) (hMy.below hZ) (by omega));have hyl2:ys2.length=xs2.length:=by have:=HBV.2.1;simpa using this
   obtain ⟨n,hn2⟩: ∃ n,n=xs2.length:=⟨_,rfl⟩
   have e1:((Value.slice xa mn xc)::xs2).length=n+1:=by rw [hn2];rfl
   have e2:((Value.slice ya mn yc')::ys2).length=n+1:=by rw [hn2,← hyl2];rfl
   rw [e1] at hcA h1 hxl;rw [e2] at hcY;have HBV2:Hid (Bks wr B p h' (.slice (some ⟨gA,oA,none⟩) (n+1) cA) (.slice (some ⟨gY,oY,none⟩) (n+1) cY) ((Value.slice xa mn xc)::xs2) ((Value.slice ya mn yc')::ys2)):=by
    rw [e1,e2] at HBV
    exact HBV
   have HP7:=hid HBV2.out.2.2.1;have c0:=cell_of_heapE HP7.out 0 _ rfl;have c1:=cell_of_heapE HP7.out 1 _ rfl;have c2:=cell_of_heapE HP7.out 2 _ rfl;have c3:=cell_of_heapE HP7.out 3 _ rfl;have hplt:=HBV2.out.lt;have HNE:=hid hn2;have HYL2:=hid hyl2;have t1:(1:Int)<((n+1:Nat):Int):=by omega
   have t1':(1:Int)<(n:Int)+1:=by omega
   have HLn:=hid (show lenAts wr p=n+1 by unfold lenAts;rw [c0];rfl);clear hMx hMy qA qY HBV hn2 hyl2 e1 e2;by_cases hH:1000000<h'
   ·have t2:(1000000:Int)<h':=hH
    clear hH
    go_wp2_with fail
    go_region_held (fun wx=>wx.cell? ⟨p,0,none⟩=some (.slice (some ⟨gA,oA,none⟩) (n+1) cA)∧wx.cell? ⟨p,1,none⟩=some (.slice (some ⟨gY,oY,none⟩) (n+1) cY)∧wx.cell? ⟨p,3,none⟩=some (.bool false)∧wx.cell? ⟨gA,oA,none⟩=some (.slice xa mn xc)∧wx.cell? ⟨gY,oY,none⟩=some (.slice ya mn yc')) (first | (refine ⟨(setCell_idle hp2 rfl _).trans d0,(setCell_idle hp2 rfl _).trans d1,(setCell_idle hp2 rfl _).trans d3,(setCell_idle hp2 rfl _).trans d4,(setCell_idle hp2 rfl _).trans d5⟩) | go_keep) (first | (go_at_call 24;refine (HSAME.out wr.drew ((Below.refl _ wr).drew)).mono ?_;rintro e w8 ⟨rfl,hb2x⟩;have hb2:Below wr.heap.size wr w8:=(Below.refl _ wr).drew.trans hb2x;have hp2:=(hb2.block p hplt).trans HP7.out;have f3:=Lib.frozen_of_heap ((hb2.block p hplt).trans HP7.out) 3;have d3:=cell_of_heapE ((hb2.block p hplt).trans HP7.out) 3 _ rfl;have d0:=cell_of_heapE ((hb2.block p hplt).trans HP7.out) 0 _ rfl;have d1:=cell_of_heapE ((hb2.block p hplt).trans HP7.out) 1 _ rfl;have d4:=kept_cell q1 hb2;have d5:=kept_cell q2 hb2))
    all_goals
     have HV8:=hid (HBV2.out.below hb2);have HV9:=hid (HV8.out.turn (heap_setCell_same w8 p 3 _ _ (.bool false) hp2) fun k _ hne=>heap_setCell_other w8 ⟨p,3,none⟩ k (.bool false) hne);have HB9:=hid ((HBL.out.step (by have:=HBP.out;omega) hb2).set HBP.out 3 (.bool false));obtain ⟨w9,hw9⟩: ∃ w9,w9=w8.setCell ⟨p,3,none⟩ (.bool false):=⟨_,rfl⟩
     rw [← hw9] at HV9 HB9 ⊢;clear hw9 d0 d1 d3 d4 d5 f3 hp2 hb2 hb2x c0 c1 c2 c3 q1 q2 HV8 HBV2 HSAME;have hp9:=HV9.out.2.2.1;have c0:=cell_of_heapE hp9 0 _ rfl;have c2:=cell_of_heapE hp9 2 _ rfl;have f2:=Lib.frozen_of_heap hp9 2;have q1:w9.cell? ⟨gA,oA,none⟩=some (.slice xa mn xc):=by
      obtain ⟨g',o',c',e,_,hq⟩:=HV9.out.2.2.2.1.cell 0 (by simp)
      injection e with e1 _ _
      injection e1 with e1
      injection e1 with e4 e5
      subst e4 e5;exact hq
     have HP9:=hid hp9;clear hp9
     go_wp2_with fail
     go_region
     all_goals
      obtain ⟨H2,hH2⟩: ∃ H2,wrap64 (wrap64 (h' - (xc:Int)) - 1)=H2:=⟨_,rfl⟩
      rw [hH2];clear hH2;have e10:=heap_setCell_same w9 p 2 _ _ (.int .i64 H2) HP9.out;have e11:=heap_setCell_same _ p 0 _ _ (.slice (some ⟨gA,oA+1,none⟩) n (cA - 1)) e10;have e12:=heap_setCell_same _ p 1 _ _ (.slice (some ⟨gY,oY+1,none⟩) n (cY - 1)) e11;have d0:=cell_of_heapE e10 0 _ rfl;have g0:=Lib.frozen_of_heap e10 0;have d1:=cell_of_heapE e11 1 _ rfl;have g1:=Lib.frozen_of_heap e11 1
      have hsl1: ∀ wx,(Instr.sliceAt 74 (.slice (some ⟨gA,oA,none⟩) (n+1) cA) (some (.int .i64 1)) none none).run Tryz.prog wx = .ok (.slice (some ⟨gA,oA+1,none⟩) n (cA - 1)) wx:=fun wx=>slice_tails gA oA (n+1) cA wx (by omega) (by omega)
      have hsl2: ∀ wx,(Instr.sliceAt 74 (.slice (some ⟨gY,oY,none⟩) (n+1) cY) (some (.int .i64 1)) none none).run Tryz.prog wx = .ok (.slice (some ⟨gY,oY+1,none⟩) n (cY - 1)) wx:=fun wx=>slice_tails gY oY (n+1) cY wx (by omega) (by omega)
      have HV10:=hid (show KPs (((w9.setCell ⟨p,2,none⟩ (.int .i64 H2)).setCell ⟨p,0,none⟩ (.slice (some ⟨gA,oA+1,none⟩) n (cA - 1))).setCell ⟨p,1,none⟩ (.slice (some ⟨gY,oY+1,none⟩) n (cY - 1))) B p zs from by
       have hb:=HV9.out;have hne:=HNE.out;have hye:=HYL2.out;subst hne;rw [← hye] at hb e12 ⊢;have hb2:Bks w9 B p h' (.slice (some ⟨gA,oA,none⟩) (xs2.length+1) cA) (.slice (some ⟨gY,oY,none⟩) (ys2.length+1) cY) ((Value.slice xa mn xc)::xs2) ((Value.slice ya mn yc')::ys2):=by rw [← hye];exact hb
       have e13:(((w9.setCell ⟨p,2,none⟩ (.int .i64 H2)).setCell ⟨p,0,none⟩ (.slice (some ⟨gA,oA+1,none⟩) ys2.length (cA - 1))).setCell ⟨p,1,none⟩ (.slice (some ⟨gY,oY+1,none⟩) ys2.length (cY - 1))).heap[p]? = some (.cells #[.slice (some ⟨gA,oA+1,none⟩) xs2.length (cA - 1),.slice (some ⟨gY,oY+1,none⟩) ys2.length (cY - 1),.int .i64 H2,.bool false] 76 (0,0)):=by rw [← hye];exact e12
       refine ⟨H2,_,_,xs2,ys2,k+1,?_,hb2.drop e13 fun j _ hj=>by
        rw [heap_setCell_other _ ⟨p,1,none⟩ j _ hj,heap_setCell_other _ ⟨p,0,none⟩ j _ hj,heap_setCell_other _ ⟨p,2,none⟩ j _ hj]⟩
       refine ⟨by have h5:=congrArg List.length HXE.out;simp at h5;omega,?_⟩
       have:=congrArg List.tail HXE.out;rw [List.tail_cons,List.tail_drop] at this
       exact this)
      have HB10:=hid (((HB9.out.set HBP.out 2 (.int .i64 H2)).set HBP.out 0 (.slice (some ⟨gA,oA+1,none⟩) n (cA - 1))).set HBP.out 1 (.slice (some ⟨gY,oY+1,none⟩) n (cY - 1)));have HLN:=hid (show lenAts (((w9.setCell ⟨p,2,none⟩ (.int .i64 H2)).setCell ⟨p,0,none⟩ (.slice (some ⟨gA,oA+1,none⟩) n (cA - 1))).setCell ⟨p,1,none⟩ (.slice (some ⟨gY,oY+1,none⟩) n (cY - 1))) p=n by unfold lenAts;rw [cell_of_heapE e12 0 _ rfl];rfl);clear e10 e11 e12 c0 c2 f2 q1 HV9
      go_wp2_with fail
      go_roundw
      case rel=>first | exact ⟨HV10.out,HB10.out⟩ | exact ⟨HV10.out,HB10.out.drew⟩
      case measure=>rw [HLn.out];exact Nat.lt_of_le_of_lt (Nat.le_of_eq HLN.out) (Nat.lt_succ_self n)
   ·have t2: ¬ ((1000000:Int)<h'):=hH
    have t3: ¬ ((4000:Int)<(n:Int)+1):=by omega
    clear q1 q2 hH
    go_wp2_with fail
    exact HK.out _ _ _ _ _ _ _ _ _ _ _ _ _ _ _ _ _ _ _ _ _ _ _ _ _ _ _ _ _ _ _ _ _ _ _ _ _ _ _ _ _ _ _ _ _ _ _ _ _ _ _ _ _ _ _ _ _ _ _ _ _ _ _ _ _ _ _ _ _ _ _ _ _ _ _ _ _ ⟨h',_,_,_,_,k,⟨HKL.out,HXE.out⟩,HBV2.out⟩ HBL.out
  ·obtain ⟨aA,cA,rfl,hcA⟩:=HBV.2.2.2.1.form
   have c0:=cell_of_heapE HBV.2.2.1 0 _ rfl;have HBV2:=hid HBV;have t1: ¬ ((1:Int)<(xs'.length:Int)):=by omega
   clear h1 HBV
   go_wp2_with fail
   exact HK.out _ _ _ _ _ _ _ _ _ _ _ _ _ _ _ _ _ _ _ _ _ _ _ _ _ _ _ _ _ _ _ _ _ _ _ _ _ _ _ _ _ _ _ _ _ _ _ _ _ _ _ _ _ _ _ _ _ _ _ _ _ _ _ _ _ _ _ _ _ _ _ _ _ _ _ _ _ ⟨h',_,_,xs',ys',k,⟨HKL.out,HXE.out⟩,HBV2.out⟩ HBL.out

end Go.Proofs.YtolioccofbhliaaGreatDoor

namespace Go.Proofs.YtolioccofbhliaaGreatDoor
open Go.RowKit

set_option maxHeartbeats 4000000 in
set_option maxRecDepth 100000 in
theorem stayss (B p:Nat) (h:Int) (A Y:Value) (xs ys:List Value) (w:World) (hbk:Bks w B p h A Y xs ys) (hn:xs.length≤201):
 Calls Tryz.prog 95 #[.pointer (some ⟨p,0,none⟩)] w fun e w'=>e = .returned (.bool true)∧Bks w' B p h A Y xs ys∧Bt 9 p B w w':=by
 have HBP:=hid hbk.1;have HB0:=hid hbk;obtain ⟨aA,cA,rfl,hcA⟩:=hbk.2.2.2.1.form
 obtain ⟨aY,cY,rfl,hcY⟩:=hbk.2.2.2.2.1.form
 obtain ⟨n,hne⟩: ∃ n,n=xs.length:=⟨_,rfl⟩
 have HNE:=hid hne;have hyl:=hbk.2.1;rw [← hne] at hn hyl hcA HB0;rw [hyl] at hcY HB0;have HYL:=hid hyl;have HG:=hid (show Bks w B p h (.slice aA n cA) (.slice aY n cY) xs ys ↔ Bks w B p h (.slice aA xs.length cA) (.slice aY ys.length cY) xs ys by rw [hyl,← hne]);have HGO:=hid (show ∀ X,Bks X B p h (.slice aA n cA) (.slice aY n cY) xs ys→Bks X B p h (.slice aA xs.length cA) (.slice aY ys.length cY) xs ys from fun X hX=>by rw [hyl,← hne];exact hX);clear hbk hne hyl HG
 go_enter Tryz.func95,Tryz.ntmps95
 go_wp2_with fail
 go_loopw [3] (fun v3 wr=> ∃ k:Nat,k≤n∧v3 = .int .i64 k∧Hid (Bks wr B p h (.slice aA n cA) (.slice aY n cY) xs ys∧Bt 9 p B w wr)) (fun v3 _=>n - (intOf v3).toNat)
 case atStart=>exact ⟨0,Nat.zero_le _,rfl,HB0.out,Bt.refl _ _ _ _⟩
 case round=>
  clear HB0;obtain ⟨k,hk,rfl,HR⟩:=hrel
  have HP7:=hid HR.out.1.2.2.1;have c3:=cell_of_heapE HP7.out 3 _ rfl;have c0:=cell_of_heapE HP7.out 0 _ rfl;have c1:=cell_of_heapE HP7.out 1 _ rfl;by_cases hlt:k<n
  ·have hin:(k:Int)<(n:Int):=by omega
   have hkx:k<xs.length:=by have:=HNE.out;omega
   have hky:k<ys.length:=by have:=HYL.out;omega
   obtain ⟨gA,oA,cA',eA,_,qA⟩:=HR.out.1.2.2.2.1.cell k hkx
   obtain ⟨gY,oY,cY',eY,_,qY⟩:=HR.out.1.2.2.2.2.1.cell k hky
   obtain ⟨mn,M,hM,hMx,hMy⟩:=HR.out.1.2.2.2.2.2.2.1 k xs[k] ys[k] (by simp [hkx]) (by simp [hky])
   injection eA with eA1 _ _
   injection eY with eY1 _ _
   subst eA1 eY1;generalize xs[k]=X at qA hMx;generalize ys[k]=Z at qY hMy;obtain ⟨xa,xc,rfl,_,_⟩:=hMx.slice
   obtain ⟨ya,yc,rfl,_,_⟩:=hMy.slice
   have HSAME:=hid (fun (Z:World) (hZ:Below wr.heap.size wr Z)=>bsames (.slice xa mn xc) (.slice ya mn yc) mn M B Z (hMx.below hZ) (hMy.below hZ) (by omega));have hplt:=HR.out.1.lt;clear hMx hMy hkx hky
   go_wp2_with fail
   go_region_held (fun wx=>wx.cell? ⟨p,0,none⟩=some (.slice (some ⟨gA,oA,none⟩) n cA)∧wx.cell? ⟨p,1,none⟩=some (.slice (some ⟨gY,oY,none⟩) n cY)∧wx.cell? ⟨p,3,none⟩=some (.bool false)∧wx.cell? ⟨gA,oA+k,none⟩=some (.slice xa mn xc)∧wx.cell? ⟨gY,oY+k,none⟩=some (.slice ya mn yc)) (first | (refine ⟨(setCell_idle hp2 rfl _).trans d0,(setCell_idle hp2 rfl _).trans d1,(setCell_idle hp2 rfl _).trans d3,(setCell_idle hp2 rfl _).trans d4,(setCell_idle hp2 rfl _).trans d5⟩) | go_keep) (first | (go_at_call 24;refine (HSAME.out wr.drew ((Below.refl _ wr).drew)).mono ?_;rintro e w8 ⟨rfl,hb2x⟩;have hb2:Below wr.heap.size wr w8:=(Below.refl _ wr).drew.trans hb2x;have hp2:=(hb2.block p hplt).trans HP7.out;have f3:=Lib.frozen_of_heap ((hb2.block p hplt).trans HP7.out) 3;have d3:=cell_of_heapE ((hb2.block p hplt).trans HP7.out) 3 _ rfl;have d0:=cell_of_heapE ((hb2.block p hplt).trans HP7.out) 0 _ rfl;have d1:=cell_of_heapE ((hb2.block p hplt).trans HP7.out) 1 _ rfl;have d4:=kept_cell qA hb2;have d5:=kept_cell qY hb2))
   all_goals
    have HV9:=hid ((HR.out.1.below hb2).turn (heap_setCell_same w8 p 3 _ _ (.bool false) hp2) fun k _ hne=>heap_setCell_other w8 ⟨p,3,none⟩ k (.bool false) hne);have HB9:=hid ((HR.out.2.step (by have:=HBP.out;omega) hb2).set HBP.out 3 (.bool false));clear d0 d1 d3 d4 d5 f3 hp2 hb2 hb2x c0 c1 c3 qA qY HSAME
    go_wp2_with fail
    go_roundw
    case rel=>first | exact ⟨k+1,by omega,by go_num,HV9.out,HB9.out⟩ | ((repeat apply Exists.intro);refine ⟨?_,rfl⟩;exact ⟨k+1,by omega,by go_num,HV9.out,HB9.out⟩)
    case measure=>simp [intOf];omega
  ·obtain rfl:k=n:=by omega
   have hng: ¬ ((k:Int)<(k:Int)):=by omega
   clear hk hlt
   go_wp2_with fail
   go_ret
   exact ⟨rfl,HGO.out _ HR.out.1,HR.out.2⟩

end Go.Proofs.YtolioccofbhliaaGreatDoor

namespace Go.Proofs.YtolioccofbhliaaGreatDoor
open Go.RowKit

def mk0s (i _j:Nat):ByteArray:=⟨#[109,97,114,107,32,UInt8.ofNat i,0,0]⟩

theorem conv_mark (w:World) (i:Nat) (hi:i≤201):(convert 28 9 (.slice (some ⟨w.heap.size,0,none⟩) 3 3)).run Tryz.prog (w.alloc (.cells #[.int .u8 (i:Int),.int .u8 ((i:Int) / 256),.int .u8 ((i:Int) / 65536)] 5 (0,0))) = .ok (.string ⟨#[UInt8.ofNat i,0,0]⟩) (w.alloc (.cells #[.int .u8 (i:Int),.int .u8 ((i:Int) / 256),.int .u8 ((i:Int) / 65536)] 5 (0,0))):=by
 have h1:(i:Int) / 256=0:=by omega
 have h2:(i:Int) / 65536=0:=by omega
 have h3:((UInt8.ofNat i).toNat:Int)=(i:Int):=by
  rw [UInt8.toNat_ofNat'];omega
 rw [h1,h2]
 refine run_convert_bytes_back (P:=Tryz.prog) _ 28 9 5 ⟨w.heap.size,0,none⟩ 3 [UInt8.ofNat i,0,0] Tryz.underlying28 Tryz.underlying5 Tryz.underlying9 ?_
 intro j hj
 match j,hj with
 | 0,_=>simp [Addr.add];omega
 | 1,_=>simp [Addr.add]
 | 2,_=>simp [Addr.add]

set_option maxHeartbeats 1000000 in
set_option maxRecDepth 100000 in
theorem marks_any (i j:Nat) (hi:i≤201) (hj:j≤9223372036854775807) (w:World):
 Calls Tryz.prog 43 #[.int .i64 (i:Int),.int .i64 (j:Int)] w fun e w'=>e = .returned (.string (mk0s i j))∧Below w.heap.size w w':=by
 have hcv:=conv_mark w i hi;have HE:=hid (show (⟨#[109,97,114,107,32]⟩:ByteArray)++⟨#[UInt8.ofNat i,0,0]⟩=mk0s i j by
  unfold mk0s;rw [← Lib.mk_data (_++_)]
  congr 2)
 clear hj;obtain ⟨Z,hZ⟩: ∃ Z:ByteArray,Z=⟨#[UInt8.ofNat i,0,0]⟩:=⟨_,rfl⟩
 have hZs:Z.size=3:=by rw [hZ];rfl
 rw [← hZ] at hcv HE;clear hZ
 go_enter Tryz.func43,Tryz.ntmps43
 go_wp2
 go_ret
 rw [← HE.out];exact ⟨rfl,(Below.refl _ w).alloc (Nat.le_refl _) _⟩

end Go.Proofs.YtolioccofbhliaaGreatDoor

namespace Go.Proofs.YtolioccofbhliaaGreatDoor
open Go.RowKit

def RowMs (w:World) (B:Nat) (x:Value) (i t m:Nat):Prop:=
 x = .slice none 0 0 ∨ ∃ g o n c cur,x = .slice (some ⟨g,o,none⟩) n c∧B≤g∧w.heap[g]? = some (Obj.cells cur 9 (0,0))∧n≤c∧c≤maxLen∧o+c≤cur.size ∧
  ∀ j,j<c→(i<t∨(i=t∧j<m))→cur[o+j]? = some (.string (mk0s i j))

def Avs (w:World) (B p:Nat) (h:Int) (A:Value) (xs:List Value) (t m:Nat):Prop:=
 (∃ Y,w.heap[p]? = some (Obj.cells #[A,Y,.int .i64 h,.bool false] 76 (0,0)))∧SlV w B 50 A xs∧(∀ (i:Nat) (x:Value),xs[i]? = some x→RowMs w B x i t m)∧xs.Pairwise AptV

theorem RowMs.same {w w':World} {B:Nat} {x:Value} {i t m:Nat} (h:RowMs w B x i t m) (hk: ∀ g,x.ownBlock=some g→w'.heap[g]? = w.heap[g]?):RowMs w' B x i t m:=by
 rcases h with h | ⟨g,o,n,c,cur,rfl,h1,h2,h3⟩
 ·exact .inl h
 ·exact .inr ⟨g,o,n,c,cur,rfl,h1,(hk g rfl).trans h2,h3⟩

theorem RowMs.lt {w:World} {B:Nat} {x:Value} {i t m:Nat} (h:RowMs w B x i t m): ∀ g,x.ownBlock=some g→g<w.heap.size ∧ ∃ cur,w.heap[g]? = some (Obj.cells cur 9 (0,0)):=by
 intro g' hg;rcases h with rfl | ⟨g,o,n,c,cur,rfl,h1,h2,h3⟩
 ·simp [Value.ownBlock] at hg
 ·simp [Value.ownBlock] at hg
  subst hg;exact ⟨(Array.getElem?_eq_some_iff.1 h2).1,cur,h2⟩

theorem Avs.below {w w':World} {B p:Nat} {h:Int} {A:Value} {xs:List Value} {t m:Nat} (ha:Avs w B p h A xs t m) (hb:Below w.heap.size w w'):Avs w' B p h A xs t m:=by
 obtain ⟨⟨Y,hp⟩,hA,hr,hpw⟩:=ha
 exact ⟨⟨Y,(hb.block p (Array.getElem?_eq_some_iff.1 hp).1).trans hp⟩,hA.same fun k hk=>hb.block k (hA.lt k hk).2,fun i x hx=>(hr i x hx).same fun g hg=>hb.block g ((hr i x hx).lt g hg).1,hpw⟩

theorem Bks.av {w:World} {B p:Nat} {h:Int} {A Y:Value} {xs ys:List Value} (hb:Bks w B p h A Y xs ys):Avs w B p h A xs 0 0:=by
 obtain ⟨h1,h2,h3,h4,h5,h6,h7,h8⟩:=hb
 refine ⟨⟨Y,h3⟩,h4,fun i x hx=> ?_,h8⟩
 have hi:=(List.getElem?_eq_some_iff.1 hx).1;obtain ⟨n,L,_,hX,_⟩:=h7 i x (ys[i]'(by omega)) hx (by simp)
 rcases hX.2 with ⟨e,_⟩ | ⟨g,o,c,cur,e,hB,hg,hn,hm,hs,_⟩
 ·exact .inl e
 ·exact .inr ⟨g,o,_,c,cur,e,hB,hg,hn,hm,by omega,fun j _ hor=>by omega⟩

theorem Avs.next {w:World} {B p:Nat} {h:Int} {A:Value} {xs:List Value} {t m:Nat} (ha:Avs w B p h A xs t m) (hm: ∀ g o n c,xs[t]? = some (.slice (some ⟨g,o,none⟩) n c)→c≤m):Avs w B p h A xs (t+1) 0:=by
 obtain ⟨hp,hA,hr,hpw⟩:=ha
 refine ⟨hp,hA,fun i x hx=> ?_,hpw⟩
 rcases hr i x hx with h | ⟨g,o,n,c,cur,rfl,h1,h2,h3,h4,h5,h6⟩
 ·exact .inl h
 ·refine .inr ⟨g,o,n,c,cur,rfl,h1,h2,h3,h4,h5,fun j hj hor=>h6 j hj ?_⟩
  by_cases hit:i=t
  ·subst hit
   have:=hm g o n c hx;exact .inr ⟨rfl,by omega⟩
  ·left;omega

theorem Avs.mark {w:World} {B p G O N C:Nat} {h:Int} {A:Value} {xs:List Value} {t m:Nat} (ha:Avs w B p h A xs t m) (ht:xs[t]? = some (.slice (some ⟨G,O,none⟩) N C)) (hm:m<C):
 Avs (w.setCell ⟨G,O+m,none⟩ (.string (mk0s t m))) B p h A xs t (m+1):=by
 obtain ⟨⟨Y,hp⟩,hA,hr,hpw⟩:=ha
 have hoth: ∀ k,k≠G→(w.setCell ⟨G,O+m,none⟩ (.string (mk0s t m))).heap[k]? = w.heap[k]? :=fun k hk=>by
  rw [heap_setCell_other _ ⟨G,O+m,none⟩ k _ hk]
 rcases hr t _ ht with e | ⟨g,o,n,c,cur,e,h1,h2,h3,h4,h5,h6⟩
 ·cases e
 injection e with e1 e2 e3
 injection e1 with e1
 injection e1 with e1 e4
 subst e1 e2 e3 e4;have k1:=Lib.heap_setCell_same h2 (i:=O+m) (.string (mk0s t m));refine ⟨⟨Y,(hoth p (kind_nf hp h2 (by decide))).trans hp⟩,hA.same fun k hk=>hoth k (fun e=>hA.other h2 (by decide) (by rw [hk];exact congrArg some e)),fun i x hx=> ?_,hpw⟩
 by_cases hit:i=t
 ·subst hit
  rw [ht] at hx;obtain rfl:=Option.some.inj hx;refine .inr ⟨G,O,N,C,_,rfl,h1,k1,h3,h4,by simpa using h5,fun j hj hor=> ?_⟩
  by_cases hjm:j=m
  ·subst hjm
   have s0:O+j<cur.size:=by omega
   rw [show O+j=O+j from rfl];simp [s0]
  ·have:=h6 j hj (.inr ⟨rfl,by omega⟩)
   rw [Array.getElem?_setIfInBounds_ne (by omega)];exact this
 ·have hne: ∀ k,x.ownBlock=some k→k≠G:=fun k hk e=>by
   subst e;have hil:=(List.getElem?_eq_some_iff.1 hx);have htl:=(List.getElem?_eq_some_iff.1 ht);obtain ⟨hi1,hi2⟩:=hil
   obtain ⟨ht1,ht2⟩:=htl
   rcases Nat.lt_or_gt_of_ne hit with hl | hl
   ·have:=(List.pairwise_iff_getElem.1 hpw) i t hi1 ht1 hl
    rw [hi2,ht2] at this
    rcases this with h' | h'
    ·rw [hk] at h';cases h'
    ·exact h' (by rw [hk];rfl)
   ·have:=(List.pairwise_iff_getElem.1 hpw) t i ht1 hi1 hl
    rw [hi2,ht2] at this
    rcases this with h' | h'
    ·cases h'
    ·exact h' (by rw [hk];rfl)
  have hx':=(hr i x hx).same (w':=(w.setCell ⟨G,O+m,none⟩ (.string (mk0s t m)))) fun g hg=>hoth g (hne g hg)
  rcases hx' with h' | ⟨g,o,n,c,cur',e',h1',h2',h3',h4',h5',h6'⟩
  ·exact .inl h'
  ·exact .inr ⟨g,o,n,c,cur',e',h1',h2',h3',h4',h5',fun j hj hor=>h6' j hj (by omega)⟩

theorem RowMs.three {w:World} {B G O N C i t m:Nat} (h:RowMs w B (.slice (some ⟨G,O,none⟩) N C) i t m) (j:Nat) (hj:j<C): ∃ a0,w.cell? ⟨G,O+j,none⟩=some a0∧w.frozen? ⟨G,O+j,none⟩=false∧((i<t∨(i=t∧j<m))→a0 = .string (mk0s i j)):=by
 rcases h with e | ⟨g,o,n,c,cur,e,h1,h2,h3,h4,h5,h6⟩
 ·cases e
 injection e with e1 e2 e3
 injection e1 with e1
 injection e1 with e1 e4
 subst e1 e2 e3 e4;have s0:O+j<cur.size:=by omega
 refine ⟨cur[O+j],?_,Lib.frozen_of_heap h2 _,fun hor=> ?_⟩
 ·rw [Lib.cell_of_heap h2];simp [s0]
 ·have a1:=h6 j hj hor
  rw [Array.getElem?_eq_getElem s0] at a1;exact Option.some.inj a1

theorem slice_fulls (g o n c:Nat) (w:World) (hn:n≤c):(Instr.sliceAt 50 (.slice (some ⟨g,o,none⟩) n c) none (some (.int .i64 (c:Int))) none).run Tryz.prog w = .ok (.slice (some ⟨g,o,none⟩) c c) w:=by
 have und:Tryz.prog.underlying 50=some (.slice (Tryz.prog.elem 50)):=by kernel_rfl
 have sz:(sizeOf (Tryz.prog.elem 50)).run Tryz.prog w = .ok 1 w:=by kernel_rfl
 rw [run_sliceAt_slice (h:=und),run_slice_h (ht:=und) (h0:=by omega) (h2:=by omega),sz];simp only [Result.andThen,sliced,Int.toNat_natCast,Nat.zero_mul,Option.map_some,Nat.sub_zero,Addr.add_lit,Nat.add_zero,ite_self]

end Go.Proofs.YtolioccofbhliaaGreatDoor

namespace Go.Proofs.YtolioccofbhliaaGreatDoor
open Go.RowKit

noncomputable def aregs : Code := (Tryz.f42.body.bind (regionOf 18)).getD .skip

set_option maxHeartbeats 4000000 in
set_option maxRecDepth 100000 in
theorem atests (G O C i m:Nat) (M0:ByteArray) (wr:World) (K:Act→World→Prop) (t0 t2 t3 t4 t5 t6 t7 t11 t12 t13 t14 t15 t16 t17 t18 t19 t20 t21 t22 t23 t24 t25 t26 t27 t28 t29 t30 t31 t32 t33 t34 t35 t36 t37 t38 t39 t40 t41 t42 t43 t44 t45 t46 t47 t48 t49 t50 t51 t52 t53 t54 t55 t56 t57 t58 t59 t60 t61 t62 t63 t64 t65 t66 t67 t68 t69 t70 t71 t72 t73 t74 t75 t76 t77 t78 t79 t80 t81 t82 t83 t84 t85 t86 t87 t88 t89 t90 t91 t92 t93 t94 t95 t96 t97 t98 t99 t100:Value) (hmI:(m:Int)<(C:Int)) (hC63:C≤9223372036854775807)
 (d0:wr.cell? ⟨G,O+m,none⟩=some (.string M0))
 (HMK:Hid (∀ X,Calls Tryz.prog 43 #[.int .i64 (i:Int),.int .i64 (m:Int)] X fun e w'=>e = .returned (.string M0)∧Below X.heap.size X w'))
 (HK:Hid (∀ (u83 u84 u85 u86 u87 u88 u89 u90:Value) (w2:World),Below wr.heap.size wr w2→K ⟨#[t0,.func (.func 43) #[] #[],t2,t3,t4,t5,t6,t7,.int .i64 (i:Int),.slice (some ⟨G,O,none⟩) C C,.int .i64 (m:Int),t11,t12,t13,t14,t15,t16,t17,t18,t19,t20,t21,t22,t23,t24,t25,t26,t27,t28,t29,t30,t31,t32,t33,t34,t35,t36,t37,t38,t39,t40,t41,t42,t43,t44,t45,t46,t47,t48,t49,t50,t51,t52,t53,t54,t55,t56,t57,t58,t59,t60,t61,t62,t63,t64,t65,t66,t67,t68,t69,t70,t71,t72,t73,t74,t75,t76,t77,t78,t79,t80,t81,t82,u83,u84,u85,u86,u87,u88,u89,u90,.bool false,t92,t93,t94,t95,t96,t97,t98,t99,t100],[]⟩ w2)):
 Code.wp Tryz.prog aregs (Exit.then K fun _ _ _=>False) ⟨#[t0,.func (.func 43) #[] #[],t2,t3,t4,t5,t6,t7,.int .i64 (i:Int),.slice (some ⟨G,O,none⟩) C C,.int .i64 (m:Int),t11,t12,t13,t14,t15,t16,t17,t18,t19,t20,t21,t22,t23,t24,t25,t26,t27,t28,t29,t30,t31,t32,t33,t34,t35,t36,t37,t38,t39,t40,t41,t42,t43,t44,t45,t46,t47,t48,t49,t50,t51,t52,t53,t54,t55,t56,t57,t58,t59,t60,t61,t62,t63,t64,t65,t66,t67,t68,t69,t70,t71,t72,t73,t74,t75,t76,t77,t78,t79,t80,t81,t82,t83,t84,t85,t86,t87,t88,t89,t90,t91,t92,t93,t94,t95,t96,t97,t98,t99,t100],[]⟩ wr:=by
 have HK1:=hid (fun (X Y:World) (hb:Below X.heap.size X Y) (h0:Below wr.heap.size wr X)=>(show (fun wx:World=>Below wr.heap.size wr wx∧wx.cell? ⟨G,O+m,none⟩=some (.string M0)) Y from let h:=h0.trans (hb.mono h0.size);⟨h,kept_cell d0 h⟩));have HK0:=hid (show (fun wx:World=>Below wr.heap.size wr wx∧wx.cell? ⟨G,O+m,none⟩=some (.string M0)) wr.drew from let h:=(Below.refl _ wr).drew;⟨h,kept_cell d0 h⟩)
 conv=>arg 2;whnf
 go_region_held (fun wx:World=>Below wr.heap.size wr wx∧wx.cell? ⟨G,O+m,none⟩=some (.string M0))
  (first | exact HK0.out | exact HK1.out _ _ (by assumption) (by (try dsimp only at *);go_split_ands;assumption) | (go_split_ands;exact ⟨by assumption,by assumption⟩))
  (first | (go_at_call 43;refine (HMK.out _).mono ?_;rintro e wa ⟨rfl,hba⟩))
 all_goals
  (try dsimp only at *)
  go_split_ands
  exact HK.out _ _ _ _ _ _ _ _ _ (by assumption)

end Go.Proofs.YtolioccofbhliaaGreatDoor

namespace Go.Proofs.YtolioccofbhliaaGreatDoor
open Go.RowKit

noncomputable def abls : Code := ((Tryz.f42.body.map loopsOf).getD []).getD 2 .skip

set_option maxHeartbeats 4000000 in
set_option maxRecDepth 100000 in
theorem aloops (B p:Nat) (h:Int) (aA:Option Addr) (cA k:Nat) (xs:List Value) (w W:World) (K:Act→World→Prop) (t2 t3 t4 t5 t6 t7 t9 t10 t11 t12 t13 t14 t15 t16 t17 t18 t19 t20 t21 t22 t23 t24 t25 t26 t27 t28 t29 t30 t31 t32 t33 t34 t35 t36 t37 t38 t39 t40 t41 t42 t43 t44 t45 t46 t47 t48 t49 t50 t51 t52 t53 t54 t55 t56 t57 t58 t59 t60 t61 t62 t63 t64 t65 t66 t67 t68 t69 t70 t71 t72 t73 t74 t75 t76 t77 t78 t79 t80 t81 t82 t83 t84 t85 t86 t87 t88 t89 t90 t91 t92 t93 t94 t95 t96 t97 t98 t99 t100:Value) (hn:k≤201) (hcA:k≤cA) (hBw:B≤w.heap.size) (HNE:Hid (k=xs.length)) (HR:Hid (Avs W B p h (.slice aA k cA) xs k 0∧Bt 9 p B w W))
 (HK:Hid (∀ (u2 u3 u4 u5 u6 u7 u8 u9 u10 u11 u12 u13 u14 u15 u16 u17 u18 u19 u20 u21 u22 u23 u24 u25 u26 u27 u28 u29 u30 u31 u32 u33 u34 u35 u36 u37 u38 u39 u40 u41 u42 u43 u44 u45 u46 u47 u48 u49 u50 u51 u52 u53 u54 u55 u56 u57 u58 u59 u60 u61 u62 u63 u64 u65 u66 u67 u68 u69 u70 u71 u72 u73 u74 u75 u76 u77 u78 u79 u80 u81 u82 u83 u84 u85 u86 u87 u88 u89 u90 u91 u92 u93 u94 u95 u96 u97 u98 u99 u100:Value) (w2:World),Avs w2 B p h (.slice aA k cA) xs k 0→Bt 9 p B w w2→K ⟨#[.pointer (some ⟨p,0,none⟩),.func (.func 43) #[] #[],u2,u3,u4,u5,u6,u7,u8,u9,u10,u11,u12,u13,u14,u15,u16,u17,u18,u19,u20,u21,u22,u23,u24,u25,u26,u27,u28,u29,u30,u31,u32,u33,u34,u35,u36,u37,u38,u39,u40,u41,u42,u43,u44,u45,u46,u47,u48,u49,u50,u51,u52,u53,u54,u55,u56,u57,u58,u59,u60,u61,u62,u63,u64,u65,u66,u67,u68,u69,u70,u71,u72,u73,u74,u75,u76,u77,u78,u79,u80,u81,u82,u83,u84,u85,u86,u87,u88,u89,u90,u91,u92,u93,u94,u95,u96,u97,u98,u99,u100],[]⟩ w2)):
 Code.wp Tryz.prog (.loop abls) (exit4b K) ⟨#[.pointer (some ⟨p,0,none⟩),.func (.func 43) #[] #[],t2,t3,t4,t5,t6,t7,.int .i64 0,t9,t10,t11,t12,t13,t14,t15,t16,t17,t18,t19,t20,t21,t22,t23,t24,t25,t26,t27,t28,t29,t30,t31,t32,t33,t34,t35,t36,t37,t38,t39,t40,t41,t42,t43,t44,t45,t46,t47,t48,t49,t50,t51,t52,t53,t54,t55,t56,t57,t58,t59,t60,t61,t62,t63,t64,t65,t66,t67,t68,t69,t70,t71,t72,t73,t74,t75,t76,t77,t78,t79,t80,t81,t82,t83,t84,t85,t86,t87,t88,t89,t90,t91,t92,t93,t94,t95,t96,t97,t98,t99,t100],[]⟩ W:=by
 conv=>arg 2;whnf
 conv=>arg 2;arg 1;whnf
 conv=>arg 4;dsimp only
 go_loopw [8] (fun v8 wq=> ∃ i:Nat,i≤k∧v8 = .int .i64 i∧Hid (Avs wq B p h (.slice aA k cA) xs k 0∧Bt 9 p B w wq)) (fun v8 _=>k - (intOf v8).toNat)
 case atStart=>exact ⟨0,Nat.zero_le _,rfl,HR.out⟩
 case round=>
  clear HR;obtain ⟨i,hi,rfl,HR⟩:=hrel
  have HP7:=hid HR.out.1.1;obtain ⟨Y3,hp7⟩:=HP7.out
  have c0:=cell_of_heapE hp7 0 _ rfl;by_cases hlt:i<k
  ·clear hp7 HP7
   have hin:(i:Int)<(k:Int):=by omega
   have hkx:i<xs.length:=by have:=HNE.out;omega
   obtain ⟨gA,oA,cA',eA,_,qA⟩:=HR.out.1.2.1.cell i hkx
   injection eA with eA1 eA2 eA3
   clear eA2 eA3;subst eA1;have HXK:=hid (show xs[i]? = some xs[i] by simp [hkx]);have hrow:=HR.out.1.2.2.1 i xs[i] HXK.out;generalize xs[i]=X at qA hrow HXK;clear hkx;rcases hrow with rfl | ⟨G,O,N,C,cur,rfl,hBG,_,hNC,hCM,_,_⟩
   ·have hcm:(0:Int)≤9223372036854775807:=by decide
    go_wp2_with fail
    go_quiet (fail)
    go_wp2_with fail
    go_loopw [10] (fun v wq=>v = .int .i64 0∧Hid (Avs wq B p h (.slice (some ⟨gA,oA,none⟩) k cA) xs k 0∧Bt 9 p B w wq)) (fun _ _=>0)
    case atStart=>exact ⟨rfl,HR.out.1.below (Go.below_drewN (Below.refl _ wr) _),HR.out.2.step (Nat.le_trans hBw HR.out.2.1.size) (Go.below_drewN (Below.refl _ wr) _)⟩
    case round=>
     obtain ⟨rfl,HR2⟩:=hrel
     go_wp2_with fail
     go_roundw
     case rel=>
      first
       | exact ⟨i+1,by omega,by go_num,HR2.out⟩
       | ((repeat apply Exists.intro);refine ⟨?_,rfl⟩;exact ⟨i+1,by omega,by go_num,HR2.out⟩)
       | ((repeat apply Exists.intro);exact ⟨⟨i+1,by omega,by go_num,HR2.out⟩,rfl⟩)
     case measure=>simp [intOf];omega
   ·have hsl: ∀ wx,(Instr.sliceAt 50 (.slice (some ⟨G,O,none⟩) N C) none (some (.int .i64 (C:Int))) none).run Tryz.prog wx = .ok (.slice (some ⟨G,O,none⟩) C C) wx:=fun wx=>slice_fulls G O N C wx hNC
    have HCM:=hid hCM;have hC63:C≤9223372036854775807:=by unfold maxLen at hCM;exact hCM
    clear hCM
    go_wp2_with fail
    go_quiet (fail)
    go_wp2_with fail
    clear qA c0 hsl
    go_loopw [10] (fun v7 wq=> ∃ m:Nat,m≤C∧v7 = .int .i64 m∧Hid (Avs wq B p h (.slice (some ⟨gA,oA,none⟩) k cA) xs k 0∧Bt 9 p B w wq)) (fun v7 _=>C - (intOf v7).toNat)
    case atStart=>exact ⟨0,Nat.zero_le _,rfl,HR.out.1.below (Go.below_drewN (Below.refl _ wr) _),HR.out.2.step (Nat.le_trans hBw HR.out.2.1.size) (Go.below_drewN (Below.refl _ wr) _)⟩
    case round=>
     clear HR;obtain ⟨m,hm,rfl,HR⟩:=hrel
     by_cases hmlt:m<C
     ·have hmI:(m:Int)<(C:Int):=by omega
      obtain ⟨x0,d0,_,hval⟩:=(HR.out.1.2.2.1 i _ HXK.out).three m hmlt
      obtain rfl:=hval (.inl hlt);have HMK:=hid (marks_any i m (by omega) (by omega));generalize mk0s i m=M0 at d0 HMK;clear hval
      go_wp2_with fail
      refine wp_cut (atests G O C i m M0 wr _ _ _ _ _ _ _ _ _ _ _ _ _ _ _ _ _ _ _ _ _ _ _ _ _ _ _ _ _ _ _ _ _ _ _ _ _ _ _ _ _ _ _ _ _ _ _ _ _ _ _ _ _ _ _ _ _ _ _ _ _ _ _ _ _ _ _ _ _ _ _ _ _ _ _ _ _ _ _ _ _ _ _ _ _ _ _ _ _ _ _ _ _ _ _ _ _ _ hmI hC63 d0 HMK ?_);intro v83 v84 v85 v86 v87 v88 v89 v90 w8 hb8
      all_goals
       have HR9:=hid (show Avs w8 B p h (.slice (some ⟨gA,oA,none⟩) k cA) xs k 0∧Bt 9 p B w w8 from ⟨HR.out.1.below hb8,HR.out.2.step (Nat.le_trans hBw HR.out.2.1.size) hb8⟩);clear HR d0 hb8
       go_wp2_with fail
       go_roundw
       case rel=>
        first
         | exact ⟨m+1,by omega,by go_num,HR9.out⟩
         | ((repeat apply Exists.intro);refine ⟨?_,rfl⟩;exact ⟨m+1,by omega,by go_num,HR9.out⟩)
         | ((repeat apply Exists.intro);exact ⟨⟨m+1,by omega,by go_num,HR9.out⟩,rfl⟩)
       case measure=>simp [intOf];omega
     ·obtain rfl:m=C:=by omega
      have hmI: ¬ ((m:Int)<(m:Int)):=by omega
      clear hm hmlt
      go_wp2_with fail
      go_roundw
      case rel=>
       first
        | exact ⟨i+1,by omega,by go_num,HR.out⟩
        | ((repeat apply Exists.intro);refine ⟨?_,rfl⟩;exact ⟨i+1,by omega,by go_num,HR.out⟩)
        | ((repeat apply Exists.intro);exact ⟨⟨i+1,by omega,by go_num,HR.out⟩,rfl⟩)
      case measure=>simp [intOf];omega
  ·obtain rfl:i=k:=by omega
   have hng: ¬ ((i:Int)<(i:Int)):=by omega
   clear hp7 HP7 hi hlt
   go_wp2_with fail
   exact HK.out _ _ _ _ _ _ _ _ _ _ _ _ _ _ _ _ _ _ _ _ _ _ _ _ _ _ _ _ _ _ _ _ _ _ _ _ _ _ _ _ _ _ _ _ _ _ _ _ _ _ _ _ _ _ _ _ _ _ _ _ _ _ _ _ _ _ _ _ _ _ _ _ _ _ _ _ _ _ _ _ _ _ _ _ _ _ _ _ _ _ _ _ _ _ _ _ _ _ _ _ HR.out.1 HR.out.2

end Go.Proofs.YtolioccofbhliaaGreatDoor

namespace Go.Proofs.YtolioccofbhliaaGreatDoor
open Go.RowKit

set_option maxHeartbeats 4000000 in
set_option maxRecDepth 100000 in
theorem aparts (B p:Nat) (h:Int) (A Y:Value) (xs ys:List Value) (w:World) (hbk:Bks w B p h A Y xs ys) (hn:xs.length≤201) (hBw:B≤w.heap.size):
 Calls Tryz.prog 42 #[.pointer (some ⟨p,0,none⟩),.func (.func 43) #[] #[]] w fun e w'=>e = .returned (.bool true)∧Bt 9 p B w w':=by
 have HBP:=hid hbk.1;have HST:=hid (stayss B p h A Y xs ys w hbk hn);obtain ⟨aA,cA,rfl,hcA⟩:=hbk.2.2.2.1.form
 obtain ⟨n,hne⟩: ∃ n,n=xs.length:=⟨_,rfl⟩
 have HNE:=hid hne;rw [← hne] at hn hcA HST;clear hbk hne
 go_enter Tryz.func42,Tryz.ntmps42
 go_wp2_with fail
 refine HST.out.mono ?_;rintro e w1 ⟨rfl,hbk1,hb1⟩
 have HAP:=hid hbk1.av;have HB1:=hid hb1;clear hbk1 hb1 HST
 go_wp2_with fail
 go_loopw [5] (fun v5 wr=> ∃ k:Nat,k≤n∧v5 = .int .i64 k∧Hid (Avs wr B p h (.slice aA n cA) xs k 0∧Bt 9 p B w wr)) (fun v5 _=>n - (intOf v5).toNat)
 case atStart=>exact ⟨0,Nat.zero_le _,rfl,HAP.out,HB1.out⟩
 case round=>
  clear HAP HB1;obtain ⟨k,hk,rfl,HR⟩:=hrel
  obtain ⟨Y2,hp7⟩:=HR.out.1.1
  have c0:=cell_of_heapE hp7 0 _ rfl;clear hp7;by_cases hlt:k<n
  ·have hin:(k:Int)<(n:Int):=by omega
   have hkx:k<xs.length:=by have:=HNE.out;omega
   obtain ⟨gA,oA,cA',eA,_,qA⟩:=HR.out.1.2.1.cell k hkx
   injection eA with eA1 _ _
   subst eA1;have HXK:=hid (show xs[k]? = some xs[k] by simp [hkx]);have hrow:=HR.out.1.2.2.1 k xs[k] HXK.out;generalize xs[k]=X at qA hrow HXK;clear hkx;rcases hrow with rfl | ⟨G,O,N,C,cur,rfl,hBG,_,hNC,hCM,_,_⟩
   ·have hcm:(0:Int)≤9223372036854775807:=by decide
    go_wp2_with fail
    go_quiet (fail)
    go_wp2_with fail
    go_loopw [7] (fun v wq=>v = .int .i64 0∧Hid (Avs wq B p h (.slice (some ⟨gA,oA,none⟩) n cA) xs k 0∧Bt 9 p B w wq)) (fun _ _=>0)
    case atStart=>exact ⟨rfl,HR.out.1.below (Go.below_drewN (Below.refl _ wr) _),HR.out.2.step (Nat.le_trans hBw HR.out.2.1.size) (Go.below_drewN (Below.refl _ wr) _)⟩
    case round=>
     obtain ⟨rfl,HR2⟩:=hrel
     go_wp2_with fail
     go_roundw
     case rel=>
      first
       | exact ⟨k+1,by omega,by go_num,HR2.out.1.next (fun g o n c hx=>by rw [HXK.out] at hx;cases hx),HR2.out.2⟩
       | ((repeat apply Exists.intro);refine ⟨?_,rfl⟩;exact ⟨k+1,by omega,by go_num,HR2.out.1.next (fun g o n c hx=>by rw [HXK.out] at hx;cases hx),HR2.out.2⟩)
       | ((repeat apply Exists.intro);exact ⟨⟨k+1,by omega,by go_num,HR2.out.1.next (fun g o n c hx=>by rw [HXK.out] at hx;cases hx),HR2.out.2⟩,rfl⟩)
     case measure=>simp [intOf];omega
   ·have hsl: ∀ wx,(Instr.sliceAt 50 (.slice (some ⟨G,O,none⟩) N C) none (some (.int .i64 (C:Int))) none).run Tryz.prog wx = .ok (.slice (some ⟨G,O,none⟩) C C) wx:=fun wx=>slice_fulls G O N C wx hNC
    have HCM:=hid hCM;have hC63:C≤9223372036854775807:=by unfold maxLen at hCM;exact hCM
    clear hCM
    go_wp2_with fail
    go_quiet (fail)
    go_wp2_with fail
    clear qA c0 hsl
    go_loopw [7] (fun v7 wq=> ∃ m:Nat,m≤C∧v7 = .int .i64 m∧Hid (Avs wq B p h (.slice (some ⟨gA,oA,none⟩) n cA) xs k m∧Bt 9 p B w wq)) (fun v7 _=>C - (intOf v7).toNat)
    case atStart=>exact ⟨0,Nat.zero_le _,rfl,HR.out.1.below (Go.below_drewN (Below.refl _ wr) _),HR.out.2.step (Nat.le_trans hBw HR.out.2.1.size) (Go.below_drewN (Below.refl _ wr) _)⟩
    case round=>
     clear HR;obtain ⟨m,hm,rfl,HR⟩:=hrel
     by_cases hmlt:m<C
     ·have hmI:(m:Int)<(C:Int):=by omega
      obtain ⟨M0,hM0⟩: ∃ M,M=mk0s k m:=⟨_,rfl⟩
      have HME0:=hid hM0;have HMK:=hid (show ∀ X,Calls Tryz.prog 43 #[.int .i64 (k:Int),.int .i64 (m:Int)] X fun e w'=>e = .returned (.string M0)∧Below X.heap.size X w' from fun X=>by rw [hM0];exact marks_any k m (by omega) (by omega) X);clear hM0
      go_wp2_with fail
      refine (HMK.out _).mono ?_;rintro e w8 ⟨rfl,hb8⟩
      have HA8:=hid (HR.out.1.below hb8);have HB8:=hid (HR.out.2.step (Nat.le_trans hBw HR.out.2.1.size) hb8);obtain ⟨x0,d0,f0,_⟩:=(HA8.out.2.2.1 k _ HXK.out).three m hmlt
      have HG8:=hid (show ∃ cur,w8.heap[G]? = some (Obj.cells cur 9 (0,0)) from ((HA8.out.2.2.1 k _ HXK.out).lt G rfl).2);clear hb8 HR
      go_wp2_with fail
      go_roundw
      case rel=>
       have e4:=HA8.out.mark HXK.out hmlt;rw [← HME0.out] at e4;obtain ⟨cur8,hG8⟩:=HG8.out
       first
        | exact ⟨m+1,by omega,by go_num,e4,(HB8.out.put hG8 hBG _ _)⟩
        | ((repeat apply Exists.intro);refine ⟨?_,rfl⟩;exact ⟨m+1,by omega,by go_num,e4,(HB8.out.put hG8 hBG _ _)⟩)
        | ((repeat apply Exists.intro);exact ⟨⟨m+1,by omega,by go_num,e4,(HB8.out.put hG8 hBG _ _)⟩,rfl⟩)
      case measure=>simp [intOf];omega
     ·obtain rfl:m=C:=by omega
      have hmI: ¬ ((m:Int)<(m:Int)):=by omega
      have HR9:=hid (show Avs wr B p h (.slice (some ⟨gA,oA,none⟩) n cA) xs (k+1) 0∧Bt 9 p B w wr from ⟨HR.out.1.next (fun g o n c hx=>by rw [HXK.out] at hx;injection hx with hx;injection hx with _ _ e3;omega),HR.out.2⟩);clear HR hm hmlt
      go_wp2_with fail
      go_roundw
      case rel=>
       first
        | exact ⟨k+1,by omega,by go_num,HR9.out⟩
        | ((repeat apply Exists.intro);refine ⟨?_,rfl⟩;exact ⟨k+1,by omega,by go_num,HR9.out⟩)
        | ((repeat apply Exists.intro);exact ⟨⟨k+1,by omega,by go_num,HR9.out⟩,rfl⟩)
      case measure=>simp [intOf];omega
  ·obtain rfl:k=n:=by omega
   have hng: ¬ ((k:Int)<(k:Int)):=by omega
   clear hk hlt
   go_wp2_with fail
   clear c0;refine wp_cut4b (aloops B p h aA cA k xs w _ _ _ _ _ _ _ _ _ _ _ _ _ _ _ _ _ _ _ _ _ _ _ _ _ _ _ _ _ _ _ _ _ _ _ _ _ _ _ _ _ _ _ _ _ _ _ _ _ _ _ _ _ _ _ _ _ _ _ _ _ _ _ _ _ _ _ _ _ _ _ _ _ _ _ _ _ _ _ _ _ _ _ _ _ _ _ _ _ _ _ _ _ _ _ _ _ _ _ _ hn hcA hBw HNE HR ?_)
   intro u2 u3 u4 u5 u6 u7 u8 u9 u10 u11 u12 u13 u14 u15 u16 u17 u18 u19 u20 u21 u22 u23 u24 u25 u26 u27 u28 u29 u30 u31 u32 u33 u34 u35 u36 u37 u38 u39 u40 u41 u42 u43 u44 u45 u46 u47 u48 u49 u50 u51 u52 u53 u54 u55 u56 u57 u58 u59 u60 u61 u62 u63 u64 u65 u66 u67 u68 u69 u70 u71 u72 u73 u74 u75 u76 u77 u78 u79 u80 u81 u82 u83 u84 u85 u86 u87 u88 u89 u90 u91 u92 u93 u94 u95 u96 u97 u98 u99 u100 w8 hav hbw;obtain ⟨Y3,hp7⟩:=hav.1
   have c0:=cell_of_heapE hp7 0 _ rfl;have f0:=Lib.frozen_of_heap hp7 0;have f1:=Lib.frozen_of_heap hp7 1;have f2:=Lib.frozen_of_heap hp7 2;have c1:=cell_of_heapE hp7 1 _ rfl;have c2:=cell_of_heapE hp7 2 _ rfl;have HBW:=hid hbw;clear hp7 hav hbw
   go_wp2_with fail
   go_ret
   exact ⟨rfl,((HBW.out.set HBP.out 0 _).set HBP.out 1 _).set HBP.out 2 _⟩

end Go.Proofs.YtolioccofbhliaaGreatDoor

namespace Go.Proofs.YtolioccofbhliaaGreatDoor
open Go.RowKit

set_option maxHeartbeats 4000000 in
set_option maxRecDepth 100000 in
theorem keepss (B p:Nat) (h:Int) (A Y:Value) (xs ys:List Value) (g o cap ln:Nat) (L:List ByteArray) (w:World) (hbk:Bks w B p h A Y xs ys) (hX:KpL 1 9 w B (Value.slice (some ⟨g,o,none⟩) ln cap) ln L) (hL:ln≤1000) (hap: ∀ a ∈ xs,AptV a (Value.slice (some ⟨g,o,none⟩) ln cap)) (hn:xs.length≤200) (hBw:B≤w.heap.size):
 Calls Tryz.prog 41 #[.pointer (some ⟨p,0,none⟩),Value.slice (some ⟨g,o,none⟩) ln cap] w fun e w'=>e = .returned (.tuple #[])∧KPs w' B p (xs++[Value.slice (some ⟨g,o,none⟩) ln cap])∧Bt 50 p B w w':=by
 obtain ⟨i0,hi,hz0,hz1,hz2⟩:=info_parts infoLss
 obtain ⟨j0,ji,jz0,jz1,jz2⟩:=info_parts infoEs
 have HBK:=hid hbk;have HBP:=hid hbk.1;have hlt:=hbk.lt;have c0:w.cell? ⟨p,0,none⟩=some A:=cell_of_heapE hbk.2.2.1 0 _ rfl
 have HA:=hid hbk.2.2.2.1;have HX:=hid hX;have HLL:=hid hL;have HAP:=hid hap;have hXc:cap≤maxLen∧ln≤cap:=by
  obtain ⟨_,c',e,h1,h2⟩:=hX.slice
  injection e with _ _ e3
  subst e3;exact ⟨h2,h1⟩
 have hXl:L.length=ln*1:=hX.1;clear hX hL hap;clear hbk
 go_enter Tryz.func41,Tryz.ntmps41
 go_wp2_with (at_builtin;refine wpList_append_slw _ rfl _ _ 74 rfl B 50 i0 (.slice none 0 0) Tryz.underlying74 hi hz0 hz1 hz2 rfl A xs rfl (HA.out.alloc0 _) ⟨w.heap.size,0,none⟩ 1 (Value.slice (some ⟨g,o,none⟩) ln cap) rfl (by simp [Addr.add]) rfl (by omega) (by simp;omega) ?_)
 intro AA w2 hAA hgrow hwh;obtain ⟨a1,k1,hAe,hk1⟩:=hAA.form
 subst hAe;obtain ⟨N,hN⟩: ∃ N,N=(xs++[Value.slice (some ⟨g,o,none⟩) ln cap]).length:=⟨_,rfl⟩
 have HN:=hid hN;rw [← hN] at hAA hwh hk1 ⊢;obtain ⟨q1,q2,q3,q4,q5,q6,q7⟩:=add1s HBK.out hBw hAA hgrow (hwh.imp id fun ⟨k,e,hk⟩=>⟨k,e,by first | omega | (simp at hk;omega)⟩)
 have d0:w2.cell? ⟨p,0,none⟩=some A:=cell_of_heapE q1 0 _ rfl
 have f0:w2.frozen? ⟨p,0,none⟩=false:=Lib.frozen_of_heap q1 0
 clear hAA hgrow hwh c0 q1 hN
 go_wp2_with fail
 obtain ⟨w3,hw3⟩: ∃ w3,w3=w2.setCell ⟨p,0,none⟩ (.slice a1 N k1):=⟨_,rfl⟩
 rw [← hw3] at q2 q3 q4 q6 q7 ⊢;clear hw3 d0 f0;have c1:w3.cell? ⟨p,1,none⟩=some Y:=cell_of_heapE q2 1 _ rfl
 have HQ2:=hid q2;have HQ3:=hid q3;have HQ4:=hid q4;have HQ5:=hid q5;have HQ6:=hid q6;have HQ7:=hid q7;have hBw3:B≤w3.heap.size:=Nat.le_trans hBw q7.1.size;have hlt3:p<w3.heap.size:=(Array.getElem?_eq_some_iff.1 q2).1;have HYL:=hid (show ys.length=xs.length from HBK.out.2.1);have hyn:ys.length≤200:=by have:=HYL.out;omega
 have HX3:=hid (HQ6.out _ _ _ HX.out);have hxc3: ∀ j u,(cS L)[j]? = some u→w3.cell? ((⟨g,o,none⟩:Addr).add j)=some u:=by
  intro j u hu;rcases HX3.out.2 with ⟨e,_⟩ | ⟨g',o',c',cur,e,_,hg,_,_,_,h4⟩
  ·cases e
  ·injection e with e1 _ _
   injection e1 with e1
   injection e1 with e4 e5
   subst e4 e5;obtain ⟨hj,rfl⟩:=List.getElem?_eq_some_iff.1 hu
   rw [cS_len] at hj;rw [Addr.add_lit,Lib.cell_of_heap hg,h4 j hj]
   simp [cS]
 have hln:ln≤1000:=HLL.out;have HCL:=hid (show (cS L).length=ln*1 by rw [cS_len];exact hXl);clear hXl;clear q2 q3 q4 q5 q6 q7
 go_region_law (first | (refine step_append_own0 rfl (.const (.slice none 0 0)) (.tmp 19) 50 rfl B 9 j0 _ 1 16 Tryz.underlying50 ji jz0 jz1 jz2 rfl (by decide) (.slice none 0 0) 0 [] rfl (World.ownsRow_nil _ _ _ _) ⟨g,o,none⟩ ln cap (cS L) rfl (by exact HCL.out) (by exact hxc3) (by exact cS_one L) (by unfold maxLen;omega) (by omega) (by simp;omega) ?_;intro y w4 hy4 hgrow4 hnil4;obtain ⟨yo,yn,yc,rfl⟩:=ownsRow_slice hy4;have hy4':KpL 1 9 w4 B (.slice yo yn yc) ln L:=own_kp (by simpa using hy4);have hg4:w3.grownBy w4 none:=⟨hgrow4.os,hgrow4.tape,hgrow4.output,hgrow4.size,hgrow4.block⟩;have hs4:=hgrow4.size;have hY4:=SlV.same HQ4.out (fun k hk=>hgrow4.block k (HQ4.out.lt k hk).2 (by simp [Value.ownBlock]));have hp4:=(hgrow4.block p hlt3 (by simp [Value.ownBlock])).trans HQ2.out;have e4:=cell_of_heapE hp4 1 Y rfl;have e4b:(w4.alloc (.cells #[.slice yo yn yc] 50)).cell? ⟨p,1,none⟩=some Y:=cell_of_heapE ((Lib.alloc_old w4 _ p (by simp at hs4;omega)).trans hp4) 1 Y rfl) | (refine step_append_slw rfl (.tmp 18) (.tmp 21) 74 rfl B 50 i0 (.slice none 0 0) Tryz.underlying74 hi hz0 hz1 hz2 rfl Y ys rfl (by exact hY4.alloc0 _) ⟨w4.heap.size,0,none⟩ 1 (.slice yo yn yc) rfl (by simp [Addr.add]) rfl (by omega) (by simp at hs4 ⊢;omega) ?_;intro YY w5 hY5 hgrow5 hwh5;obtain ⟨a2,k2,hYe,hk2⟩:=hY5.form;rw [show (ys++[Value.slice yo yn yc]).length=ys.length+1 by simp] at hYe;subst hYe;obtain ⟨r1,r2,r3,r4,r5,r6,r7,r8⟩:=add2s HBP.out HQ2.out HQ3.out HQ4.out HQ5.out hBw3 hg4 hy4' hY5 hgrow5 (hwh5.imp id fun ⟨k,e,hk⟩=>⟨k,e,by first | omega | (simp at hk;omega)⟩);have e1:=cell_of_heapE r1 1 Y rfl;have f1:=Lib.frozen_of_heap r1 1))
 all_goals
  have HBK6:=hid (add3s HBK.out HX.out HLL.out HAP.out HQ6.out r6 r7 r2 r3 r4 r5);have HB6:=hid (HQ7.out.trans r8);obtain ⟨w6,hw6⟩: ∃ w6,w6=w5.setCell ⟨p,1,none⟩ (.slice a2 (ys.length+1) k2):=⟨_,rfl⟩
  rw [← hw6] at HBK6 HB6 ⊢;have c2:w6.cell? ⟨p,2,none⟩=some (.int .i64 h):=cell_of_heapE HBK6.out.2.2.1 2 _ rfl
  have f2:w6.frozen? ⟨p,2,none⟩=false:=Lib.frozen_of_heap HBK6.out.2.2.1 2
  clear hw6 r1 r2 r3 r4 r5 r6 r7 r8 e1 f1 hY5 hgrow5 hwh5 hk2 hgrow4 hg4 hy4 hy4' hnil4 hs4 hY4 hp4 e4 e4b c1 hxc3 HQ2 HQ3 HQ4 HQ5 HQ6 HQ7 HX3
  go_wp2_with fail
  obtain ⟨H,hH⟩: ∃ H,wrap64 (wrap64 (h+(cap:Int))+1)=H:=⟨_,rfl⟩
  rw [hH];clear hH;have HBK7:=hid (HBK6.out.turn (heap_setCell_same w6 p 2 _ _ (.int .i64 H) HBK6.out.2.2.1) fun k _ hne=>heap_setCell_other w6 ⟨p,2,none⟩ k (.int .i64 H) hne);have HB7:=hid (HB6.out.set HBP.out 2 (.int .i64 H));obtain ⟨w7,hw7⟩: ∃ w7,w7=w6.setCell ⟨p,2,none⟩ (.int .i64 H):=⟨_,rfl⟩
  rw [← hw7] at HBK7 HB7 ⊢;clear hw7 c2 f2 HBK6 HB6;have HKP:=hid (show KPs w7 B p (xs++[Value.slice (some ⟨g,o,none⟩) ln cap]) from ⟨H,_,_,_,_,0,⟨by simp,rfl⟩,HBK7.out⟩);clear HBK7;refine wp_cut0 (kloops B p (xs++[Value.slice (some ⟨g,o,none⟩) ln cap]) w w7 _ _ _ _ _ _ _ _ _ _ _ _ _ _ _ _ _ _ _ _ _ _ _ _ _ _ _ _ _ _ _ _ _ _ _ _ _ _ _ _ _ _ _ _ _ _ _ _ _ _ _ _ _ _ _ _ _ _ _ _ _ _ _ _ _ _ _ _ _ _ _ _ _ _ _ _ _ _ _ _ _ _ _ _ _ _ _ _ _ _ _ _ _ _ _ _ _ _ _ _ _ _ _ _ _ _ _ _ _ _ _ _ (by simp;omega) HKP HBP HB7 ?_)
  intro u36 u37 u38 u39 u40 u41 u42 u43 u44 u45 u46 u47 u48 u49 u50 u51 u52 u53 u54 u55 u56 u57 u58 u59 u60 u61 u62 u63 u64 u65 u66 u67 u68 u69 u70 u71 u72 u73 u74 u75 u76 u77 u78 u79 u80 u81 u82 u83 u84 u85 u86 u87 u88 u89 u90 u91 u92 u93 u94 u95 u96 u97 u98 u99 u100 u101 u102 u103 u104 u105 u106 u107 u108 u109 u110 u111 w8 hkp hbw;have HKP8:=hid hkp;have HBW8:=hid hbw;clear hkp hbw
  go_wp2_with fail
  go_end0
  exact ⟨rfl,HKP8.out,HBW8.out⟩

end Go.Proofs.YtolioccofbhliaaGreatDoor
